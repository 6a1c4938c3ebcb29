/-
  Package rule: whether a file may have a name.
-/
import Derived.Test.YthpinjmlnongpaaDoorPaA
namespace Go.Proofs.YthpinjmlnongpaaDoor
open Go.ChangeShapes Go.WideShapes Go.ChangeAt Go.RowKit Go.Joins
set_option linter.unusedVariables false

theorem str_index (s : ByteArray) (k : Nat) (hk : k < s.size) : ∃ c : Nat, c < 256 ∧ (∀ W, (Instr.index 9 (.string s) (.int .i64 (k : Int))).run Tryd.prog W = .ok (.int .u8 (c : Int)) W) ∧ ∃ x : UInt8, x.toNat = c ∧ s.data.toList[k]? = some x := by
  have hl : s.data.toList.length = s.size := Array.length_toList
  refine ⟨(s[k]'hk).toNat, UInt8.toNat_lt _, fun W => ?_, s[k]'hk, rfl, ?_⟩
  · rw [run_index_string (h := Tryd.underlying9), dif_pos ⟨by omega, by omega⟩]
    simp
  · rw [List.getElem?_eq_getElem (by omega)]
    rfl
theorem str_some {s : ByteArray} (h : ¬ s.size = 0) : s.toList.isEmpty = false := by
  rw [ByteArray.toList_eq]
  cases hl : s.data.toList with
  | nil => exact absurd (show s.data.size = 0 by rw [← Array.length_toList, hl]; rfl) h
  | cons _ _ => rfl
/-- strings.Split at a stroke: a new row of the parts. -/
theorem split_any (s : ByteArray) (hs : s.size < 4294967281) (w : World) (hm : Mx w) :
    Calls Tryd.prog 56 #[.string s, .string ⟨#[47]⟩] w fun e w' => ∃ B, e = .returned (.slice (some ⟨B, 0, none⟩) (partsN s.data.toList).length (partsN s.data.toList).length) ∧
      (∀ k, k < (partsN s.data.toList).length → ∃ p : ByteArray, w'.cell? ⟨B, k, none⟩ = some (.string p) ∧ (partsN s.data.toList)[k]? = some p.data.toList) ∧ Below w.heap.size w w' := by
  obtain ⟨m, hm⟩ := hm.max
  refine (Any.strings_Split { lay_splitB with } lay_splitB.i9 s ⟨#[47]⟩ m w hs hm (by decide)).mono ?_
  rintro e w' ⟨rfl, rfl⟩
  rw [count_parts]
  refine ⟨w.heap.size, rfl, fun k hk => ?_, (Below.refl _ _).alloc (Nat.le_refl _) _⟩
  rw [← split_parts] at hk ⊢
  rw [List.length_map] at hk
  refine ⟨(Lib.splitB ⟨#[47]⟩ 0 (Lib.countB s ⟨#[47]⟩) s)[k], ?_, ?_⟩
  · rw [World.cell?_alloc_new]
    simp [hk]
  · rw [List.getElem?_map, List.getElem?_eq_getElem hk]; rfl
set_option maxRecDepth 100000 in
set_option maxHeartbeats 4000000 in
theorem name_any (s : ByteArray) (hs : s.size ≤ 9223372036854775807) (w : World) (hm : Mx w) :
    Calls Tryd.prog 32 #[.string s] w fun e w' => e = .returned (.bool (nameB s.data.toList)) ∧ Below w.heap.size w w' := by
  have hl : s.data.toList.length = s.size := Array.length_toList
  obtain ⟨l, hL⟩ : ∃ l, l = s.data.toList := ⟨_, rfl⟩
  obtain ⟨r, hr⟩ : ∃ r, r = nameB l := ⟨_, rfl⟩
  rw [← hL] at hl
  rw [← hL, ← hr]
  have HB0 : Hid (Below w.heap.size w w) := Below.refl _ _
  have HM := Lib.hid hm
  clear hm
  by_cases h0 : s.size = 0
  · have hR : Hid (r = false) := by
      show _ = _
      obtain rfl : l = [] := List.length_eq_zero_iff.1 (by omega)
      rw [hr, nameB_nil]
    clear hr
    have e0 : s = ByteArray.empty := by
      apply ByteArray.ext
      apply Array.ext'
      rw [← hL]
      simpa using List.length_eq_zero_iff.1 (by omega : l.length = 0)
    subst e0
    go_enter Tryd.func32, Tryd.ntmps32
    go_wp2_with fail
    go_ret
    exact ⟨ret_bool hR.out.symm, HB0.out⟩
  have ne : s.toList.isEmpty = false := str_some h0
  have ne2 : ¬ s.toList = [] := by intro e; rw [e] at ne; cases ne
  by_cases h1 : 40 < s.size
  · have hR : Hid (r = false) := by
      show _ = _
      rw [hr]
      cases e : nameB l
      · rfl
      · have := ((nameB_iff l).1 e).1; omega
    clear hr
    have d1 : decide ((40 : Int) < (s.size : Int)) = true := decide_eq_true (by omega)
    go_enter Tryd.func32, Tryd.ntmps32
    go_wp2_with fail
    go_ret
    exact ⟨ret_bool hR.out.symm, HB0.out⟩
  have d1 : decide ((40 : Int) < (s.size : Int)) = false := decide_eq_false (by omega)
  have HS : Hid (∀ w, Calls Tryd.prog 54 #[.string s, .string ⟨#[46, 103, 121, 115]⟩] w fun e w' => e = .returned (.bool (Lib.hasSuffix l [46, 103, 121, 115])) ∧ w' = w) := fun w => by
    rw [hL]
    exact Any.strings_HasSuffix lay_suffixB s ⟨#[46, 103, 121, 115]⟩ w hs
  have HI : Hid (r = true ↔ l.length ≤ 40 ∧ Lib.hasSuffix l [46, 103, 121, 115] = false ∧ (∀ c ∈ l, letB c.toNat = true ∨ c.toNat = 47) ∧ (∀ p ∈ partsN l, partB p = true) ∧ (partsN l).head? ≠ some [111, 108, 100] ∧ (partsN l).head? ≠ some [116, 109, 112]) := by
    show _ ↔ _
    rw [hr]; exact nameB_iff l
  obtain ⟨q, hq⟩ : ∃ q, q = Lib.hasSuffix l [46, 103, 121, 115] := ⟨_, rfl⟩
  rw [← hq] at HS HI
  clear hq hr
  cases q
  · go_enter Tryd.func32, Tryd.ntmps32
    go_upto_region 3 with (go_at_call 54; refine (HS.out _).mono ?_; rintro e w' ⟨rfl, hw⟩; obtain rfl := hw.symm)
    clear HS
    have hz : s.size ≤ 40 := by omega
    have HL : Hid (∀ k, k < s.size → ∃ c : Nat, c < 256 ∧ (∀ W, (Instr.index 9 (.string s) (.int .i64 (k : Int))).run Tryd.prog W = .ok (.int .u8 (c : Int)) W) ∧ ∃ x : UInt8, x.toNat = c ∧ l[k]? = some x) := by
      show ∀ _, _
      rw [hL]; exact str_index s
    have HP : Hid (l.length = s.size ∧ l = s.data.toList) := ⟨hl, hL⟩
    clear hl hL h1 hs
    have HK0 : Hid (∀ c ∈ l.take 0, letB c.toNat = true ∨ c.toNat = 47) := fun c h => by simp at h
    go_wp2_with fail
    go_loopw [20] (fun i wr => ∃ k : Nat, k ≤ s.size ∧ i = .int .i64 k ∧ Hid (∀ c ∈ l.take k, letB c.toNat = true ∨ c.toNat = 47) ∧ Hid (Below w.heap.size w wr)) (fun i _ => s.size - (intOf i).toNat)
    case atStart => exact ⟨0, by omega, rfl, HK0, HB0⟩
    case round =>
      obtain ⟨k, hk, rfl, HK, HB⟩ := hrel
      clear HB0 HK0
      by_cases hlt : k < s.size
      · obtain ⟨c, hc, hix, x, hx, hxk⟩ := HL.out k hlt
        have hA := letter_any c hc
        have HN : Hid ((letB c || decide (c = 47)) = true → ∀ c ∈ l.take (k + 1), letB c.toNat = true ∨ c.toNat = 47) := fun h c hc => by
          obtain ⟨hkl, e⟩ := List.getElem?_eq_some_iff.1 hxk
          rw [List.take_succ_eq_append_getElem hkl] at hc
          rcases List.mem_append.1 hc with hc | hc
          · exact HK.out c hc
          · obtain rfl : c = x := by rw [← e]; simpa using hc
            rw [hx]
            simpa using h
        have HF : Hid ((letB c || decide (c = 47)) = false → r = false) := fun h => by
          cases e : r
          · rfl
          · have := (HI.out.1 e).2.2.1 x (List.mem_of_getElem? hxk)
            rw [hx] at this
            simp at h
            rcases this with h1 | h1
            · rw [h1] at h; cases h.1
            · exact absurd h1 h.2
        have HA := Lib.hid hA
        clear hA hxk hx HK
        obtain ⟨q, hq⟩ : ∃ q, q = (letB c || decide (c = 47)) := ⟨_, rfl⟩
        rw [← hq] at HA HN HF
        clear hq
        cases q
        · have HF2 := Lib.hid (HF.out rfl)
          go_wp2_with (go_at_call 55; refine (HA.out _).mono ?_; rintro e w' ⟨rfl, hw⟩; obtain rfl := hw.symm)
          go_ret
          exact ⟨ret_bool HF2.out.symm, HB.out⟩
        · have HN2 := Lib.hid (HN.out rfl)
          go_wp2_with (go_at_call 55; refine (HA.out _).mono ?_; rintro e w' ⟨rfl, hw⟩; obtain rfl := hw.symm)
          go_roundw
          case rel => exact ⟨k + 1, by omega, by go_num, HN2, HB⟩
          case measure => simp [intOf]; omega
      · obtain rfl : k = s.size := by omega
        have HG : Hid (∀ c ∈ l, letB c.toNat = true ∨ c.toNat = 47) := fun c hc => HK.out c (by rw [List.take_of_length_le (by rw [HP.out.1]; exact Nat.le_refl _)]; exact hc)
        clear HK HL
        have HSp : Hid (∀ w, Mx w → Calls Tryd.prog 56 #[.string s, .string ⟨#[47]⟩] w fun e w' => ∃ B, e = .returned (.slice (some ⟨B, 0, none⟩) (partsN l).length (partsN l).length) ∧
            (∀ k, k < (partsN l).length → ∃ p : ByteArray, w'.cell? ⟨B, k, none⟩ = some (.string p) ∧ (partsN l)[k]? = some p.data.toList) ∧ Below w.heap.size w w') := by
          show ∀ _, _
          rw [HP.out.2]
          exact fun w hm => split_any s (by omega) w hm
        have HM1 := Lib.hid (HM.out.below HB.out)
        obtain ⟨P, hPe⟩ : ∃ P, P = partsN l := ⟨_, rfl⟩
        have hP0 : P ≠ [] := by rw [hPe]; exact partsN_ne l
        have hPl : P.length ≤ 41 := by rw [hPe]; have := partsN_len l; have := HP.out.1; omega
        rw [← hPe] at HSp HI
        clear hPe HM
        obtain ⟨n, hn⟩ : ∃ n, n = P.length := ⟨_, rfl⟩
        rw [← hn] at HSp
        have hn0 : 0 < n := by rw [hn]; exact List.length_pos_iff.2 hP0
        have hn41 : n ≤ 41 := by omega
        have HnP := Lib.hid hn
        clear hlt hk hn hPl
        go_upto_region 10 with (go_at_call 56; refine (HSp.out _ HM1.out).mono ?_; rintro e w1 ⟨B, rfl, hcell, hb1⟩)
        have HC0 : Hid (∀ k, k < n → ∃ p : ByteArray, w1.cell? ⟨B, k, none⟩ = some (.string p) ∧ P[k]? = some p.data.toList) := hcell
        have HB1 : Hid (Below w.heap.size w w1) := HB.out.trans (hb1.mono HB.out.size)
        have HQ0 : Hid (∀ p ∈ P.take 0, partB p = true) := fun p h => by simp at h
        clear hcell hb1 HB HM1 HSp
        go_wp2_with fail
        go_loopw [33] (fun i wr => ∃ k : Nat, k ≤ n ∧ i = .int .i64 k ∧ Hid (∀ k, k < n → ∃ p : ByteArray, wr.cell? ⟨B, k, none⟩ = some (.string p) ∧ P[k]? = some p.data.toList) ∧ Hid (∀ p ∈ P.take k, partB p = true) ∧ Hid (Below w.heap.size w wr)) (fun i _ => n - (intOf i).toNat)
        case atStart => exact ⟨0, by omega, rfl, HC0, HQ0, HB1⟩
        case round =>
          obtain ⟨k, hk, rfl, HC, HQ, HB⟩ := hrel
          clear HC0 HQ0 HB1
          by_cases hlt : k < n
          · obtain ⟨p, hc, hpk⟩ := HC.out k hlt
            have hpl : p.toList = p.data.toList := ByteArray.toList_eq p
            obtain ⟨y, hy⟩ : ∃ y, y = p.toList := ⟨_, rfl⟩
            have HF : Hid (partB y = false → r = false) := fun h => by
              cases e : r
              · rfl
              · have := (HI.out.1 e).2.2.2.1 p.data.toList (List.mem_of_getElem? hpk)
                rw [← hpl, ← hy, h] at this
                cases this
            have HN : Hid (partB y = true → ∀ p ∈ P.take (k + 1), partB p = true) := fun h q hq => by
              obtain ⟨hkl, e⟩ := List.getElem?_eq_some_iff.1 hpk
              rw [List.take_succ_eq_append_getElem hkl] at hq
              rcases List.mem_append.1 hq with hq | hq
              · exact HQ.out q hq
              · obtain rfl : q = y := by rw [hy, hpl, ← e]; simpa using hq
                exact h
            have HY := Lib.hid hy
            clear hpk hpl hy HQ
            by_cases c1 : y = []
            · have HF2 := Lib.hid (HF.out (by rw [c1]; rfl))
              clear HF HN
              have d1 : p.toList.isEmpty = true := by rw [← HY.out, c1]; rfl
              have d2 : p.toList = [] := by rw [← HY.out, c1]
              clear c1 HY
              go_wp2_with fail
              go_ret
              exact ⟨ret_bool HF2.out.symm, HB.out⟩
            have n1 : p.toList.isEmpty = false := by rw [← HY.out]; cases y with | nil => exact absurd rfl c1 | cons _ _ => rfl
            have n2 : ¬ p.toList = [] := by rw [← HY.out]; exact c1
            by_cases c2 : y = [46]
            · have HF2 := Lib.hid (HF.out (by rw [c2]; rfl))
              clear HF HN
              have d1 : (p.toList == [46]) = true := by rw [← HY.out, c2]; rfl
              have d2 : p.toList = [46] := by rw [← HY.out, c2]
              clear c2 c1 HY
              go_wp2_with fail
              go_ret
              exact ⟨ret_bool HF2.out.symm, HB.out⟩
            have n3 : (p.toList == [46]) = false := by rw [← HY.out]; simpa using c2
            have n4 : ¬ p.toList = [46] := by rw [← HY.out]; exact c2
            by_cases c3 : y = [46, 46]
            · have HF2 := Lib.hid (HF.out (by rw [c3]; rfl))
              clear HF HN
              have d1 : (p.toList == [46, 46]) = true := by rw [← HY.out, c3]; rfl
              have d2 : p.toList = [46, 46] := by rw [← HY.out, c3]
              clear c3 c2 c1 HY n4 n2
              go_wp2_with fail
              go_ret
              exact ⟨ret_bool HF2.out.symm, HB.out⟩
            have n5 : (p.toList == [46, 46]) = false := by rw [← HY.out]; simpa using c3
            have n6 : ¬ p.toList = [46, 46] := by rw [← HY.out]; exact c3
            have HN2 := Lib.hid (HN.out (by unfold partB; simp [c1, c2, c3]))
            clear HF HN c1 c2 c3 HY
            go_wp2_with fail
            go_roundw
            case rel => exact ⟨k + 1, by omega, by go_num, HC, HN2, HB⟩
            case measure => simp [intOf]; omega
          · obtain rfl : k = n := by omega
            have HR : Hid (P.head? ≠ some [111, 108, 100] → P.head? ≠ some [116, 109, 112] → r = true) := fun h1 h2 => by
              refine HI.out.2 ⟨by have := HP.out.1; omega, trivial, HG.out, fun p hp => HQ.out p ?_, h1, h2⟩
              rw [List.take_of_length_le (by rw [HnP.out]; exact Nat.le_refl _)]; exact hp
            have HR1 : Hid (P.head? = some [111, 108, 100] → r = false) := fun h => by
              cases e : r
              · rfl
              · exact absurd h (HI.out.1 e).2.2.2.2.1
            have HR2 : Hid (P.head? = some [116, 109, 112] → r = false) := fun h => by
              cases e : r
              · rfl
              · exact absurd h (HI.out.1 e).2.2.2.2.2
            obtain ⟨p, hc, hpk⟩ := HC.out 0 hn0
            have hpl : p.toList = p.data.toList := ByteArray.toList_eq p
            have hh : P.head? = some p.toList := by rw [hpl, ← hpk, List.head?_eq_getElem?]
            rw [hh] at HR HR1 HR2
            clear hh hpl hpk HI HG HP HQ HC
            by_cases c1 : p.toList = [111, 108, 100]
            · have HF2 := Lib.hid (HR1.out (by rw [c1]))
              clear HR HR1 HR2
              have d1 : (p.toList == [111, 108, 100]) = true := by rw [c1]; rfl
              go_wp2_with fail
              go_ret
              exact ⟨ret_bool HF2.out.symm, HB.out⟩
            have n1 : (p.toList == [111, 108, 100]) = false := by simpa using c1
            by_cases c2 : p.toList = [116, 109, 112]
            · have HF2 := Lib.hid (HR2.out (by rw [c2]))
              clear HR HR1 HR2
              have d1 : (p.toList == [116, 109, 112]) = true := by rw [c2]; rfl
              go_wp2_with fail
              go_ret
              exact ⟨ret_bool HF2.out.symm, HB.out⟩
            have n2 : (p.toList == [116, 109, 112]) = false := by simpa using c2
            have HF2 := Lib.hid (HR.out (by simpa using c1) (by simpa using c2))
            clear HR HR1 HR2
            go_wp2_with fail
            go_ret
            exact ⟨ret_bool HF2.out.symm, HB.out⟩
  · have hR : Hid (r = false) := by
      show _ = _
      cases e : r
      · rfl
      · have := (HI.out.1 e).2.1; cases this
    clear HI
    go_enter Tryd.func32, Tryd.ntmps32
    go_wp2_with (go_at_call 54; refine (HS.out _).mono ?_; rintro e w' ⟨rfl, rfl⟩)
    go_ret
    exact ⟨ret_bool hR.out.symm, HB0.out⟩
end Go.Proofs.YthpinjmlnongpaaDoor
