/-
  The document's Path: whether a file of a set may be named so.
-/
import Derived.Test.YthpinjmlnongpaaDoorPaN
import Derived.Test.YthpinjmlnongpaaDoorPaB
namespace Go.Proofs.YthpinjmlnongpaaDoor
open Go.ChangeShapes Go.WideShapes Go.ChangeAt Go.RowKit Go.Joins
set_option linter.unusedVariables false

theorem str_slice (s : ByteArray) (a b : Nat) (h1 : a ≤ b) (h2 : b ≤ s.size) (W : World) : (Instr.slice 9 (.string s) (some (.int .i64 (a : Int))) (some (.int .i64 (b : Int))) none).run Tryd.prog W = .ok (.string (s.extract a b)) W := by
  rw [run_slice_string (h := Tryd.underlying9)]
  · simp
  · omega
  · omega
  · omega
theorem str_slice_from (s : ByteArray) (a : Nat) (h2 : a ≤ s.size) (W : World) : (Instr.slice 9 (.string s) (some (.int .i64 (a : Int))) none none).run Tryd.prog W = .ok (.string (s.extract a s.size)) W := by
  rw [run_slice_string_from_if (h := Tryd.underlying9), if_pos ⟨by omega, by omega⟩]
  simp
theorem str_piece (s : ByteArray) (a b : Nat) : (s.extract a b).toList = (s.data.toList.take b).drop a := by
  rw [ByteArray.toList_eq, Lib.extract_data, List.drop_take]
set_option maxRecDepth 100000 in
set_option maxHeartbeats 4000000 in
theorem refPath_any (s : ByteArray) (hs : s.size ≤ 9223372036854775807) (w : World) :
    Calls Tryd.prog 23 #[.string s] w fun e w' => e = .returned (.bool (nameB s.data.toList)) ∧ Below w.heap.size w w' := by
  have hl : s.data.toList.length = s.size := Array.length_toList
  obtain ⟨l, hL⟩ : ∃ l, l = s.data.toList := ⟨_, rfl⟩
  obtain ⟨r, hr⟩ : ∃ r, r = nameB l := ⟨_, rfl⟩
  rw [← hL] at hl
  rw [← hL, ← hr]
  have HB0 : Hid (Below w.heap.size w w) := Below.refl _ _
  have HI : Hid (r = true → l.length ≤ 40 ∧ Lib.hasSuffix l [46, 103, 121, 115] = false ∧ (∀ c ∈ l, letB c.toNat = true ∨ c.toNat = 47) ∧ (∀ p ∈ partsN l, partB p = true) ∧ (partsN l).head? ≠ some [111, 108, 100] ∧ (partsN l).head? ≠ some [116, 109, 112]) := by
    show _ → _
    rw [hr]; exact (nameB_iff l).1
  by_cases h1 : 40 < s.size
  · have hR : Hid (r = false) := by
      show _ = _
      cases e : r
      · rfl
      · have := (HI.out e).1; omega
    clear hr
    have d1 : decide ((40 : Int) < (s.size : Int)) = true := decide_eq_true (by omega)
    go_enter Tryd.func23, Tryd.ntmps23
    go_wp2_with fail
    go_ret
    exact ⟨ret_bool hR.out.symm, HB0.out⟩
  have d1 : decide ((40 : Int) < (s.size : Int)) = false := decide_eq_false (by omega)
  have HD : Hid (∀ F D, PathSt l F (l.length + 1) D → Lib.hasSuffix l [46, 103, 121, 115] = false → r = true) := fun F D h hs => by rw [hr]; exact h.done (by omega) hs
  have HX := Lib.hasSuffix_raw s ⟨#[46, 103, 121, 115]⟩
  rw [← hL, ByteArray.toList_eq ⟨#[46, 103, 121, 115]⟩] at HX
  obtain ⟨q, hq⟩ : ∃ q, q = Lib.hasSuffix l [46, 103, 121, 115] := ⟨_, rfl⟩
  have HX : (decide (4 ≤ s.size) && ((s.extract (s.size - 4) s.size).toList == [46, 103, 121, 115])) = q := by rw [hq]; exact HX
  rw [← hq] at HD HI
  clear hq hr
  have HW : (s.size < 4 ∧ q = false) ∨ ∃ m : Nat, s.size = m + 4 ∧ ((s.extract m s.size).toList == [46, 103, 121, 115]) = q := by
    by_cases h4 : 4 ≤ s.size
    · refine .inr ⟨s.size - 4, by omega, ?_⟩
      rw [decide_eq_true h4, Bool.true_and] at HX
      exact HX
    · refine .inl ⟨by omega, ?_⟩
      rw [decide_eq_false h4, Bool.false_and] at HX
      exact HX.symm
  clear HX
  rcases HW with ⟨h4, rfl⟩ | ⟨m, hm, hx⟩
  case' inr =>
    have d2 : decide ((4 : Int) ≤ (s.size : Int)) = true := decide_eq_true (by omega)
    have hsl := str_slice_from s m (by omega)
    have hm1 : (s.size : Int) - 4 = (m : Int) := by omega
    have h44 : 4 ≤ s.size := by omega
    clear hm
    cases q
    case' true =>
      have hR : Hid (r = false) := by
        show _ = _
        cases e : r
        · rfl
        · have := (HI.out e).2.1; cases this
      clear HI HD
      go_enter Tryd.func23, Tryd.ntmps23
      go_wp2_with fail
      go_ret
      exact ⟨ret_bool hR.out.symm, HB0.out⟩
  case' inl =>
    have d2 : decide ((4 : Int) ≤ (s.size : Int)) = false := decide_eq_false (by omega)
  all_goals
    go_enter Tryd.func23, Tryd.ntmps23
    go_wp2_with fail
    have HL : Hid (∀ k, k < s.size → ∃ c : Nat, c < 256 ∧ (∀ W, (Instr.index 9 (.string s) (.int .i64 (k : Int))).run Tryd.prog W = .ok (.int .u8 (c : Int)) W) ∧ ∃ x : UInt8, x.toNat = c ∧ l[k]? = some x) := by
      show ∀ _, _
      rw [hL]; exact str_index s
    have HP : Hid (l.length = s.size ∧ l = s.data.toList) := ⟨hl, hL⟩
    have HS0 : Hid (∃ D, PathSt l 0 0 D) := ⟨[], .start l⟩
    clear hl hL hs
    go_loopw [3, 4] (fun f i wr => ∃ F k : Nat, F ≤ k ∧ k ≤ s.size + 1 ∧ f = .int .i64 F ∧ i = .int .i64 k ∧ Hid (∃ D, PathSt l F k D) ∧ Hid (Below w.heap.size w wr)) (fun _ i _ => s.size + 1 - (intOf i).toNat)
    case atStart => exact ⟨0, 0, by omega, by omega, rfl, rfl, HS0, HB0⟩
    case round =>
      obtain ⟨F, k, hFk, hk, rfl, rfl, HS, HB⟩ := hrel
      clear HS0 HB0
      by_cases hend : k = s.size + 1
      · have HF2 : Hid (r = true) := by
          obtain ⟨D, h⟩ := HS.out
          have e1 := HP.out.1
          exact HD.out F D (by rw [e1, ← hend]; exact h) (by first | rfl | trivial)
        have d3 : ¬ k ≤ s.size := by omega
        have d3b : decide (k ≤ s.size) = false := decide_eq_false (by omega)
        clear HD HI HS HL HP hend
        go_wp2_with fail
        go_ret
        exact ⟨ret_bool HF2.out.symm, HB.out⟩
      have d3b : decide (k ≤ s.size) = true := decide_eq_true (by omega)
      have hks : k ≤ s.size := by omega
      clear hend
      have HW : (k < s.size ∧ ∃ c : Nat, c < 256 ∧ c ≠ 47 ∧ (∀ W, (Instr.index 9 (.string s) (.int .i64 (k : Int))).run Tryd.prog W = .ok (.int .u8 (c : Int)) W) ∧ ∃ x : UInt8, x.toNat = c ∧ l[k]? = some x) ∨
          (k < s.size ∧ (∀ W, (Instr.index 9 (.string s) (.int .i64 (k : Int))).run Tryd.prog W = .ok (.int .u8 47) W) ∧ Hid (∀ x, l[k]? = some x → x.toNat = 47)) ∨ (¬ k < s.size ∧ Hid (∀ x, l[k]? = some x → x.toNat = 47)) := by
        by_cases hlt : k < s.size
        · obtain ⟨c, h1, h2, x, h3, h4⟩ := HL.out k hlt
          by_cases h47 : c = 47
          · subst h47
            refine .inr (.inl ⟨hlt, h2, ?_⟩)
            show ∀ _, _
            intro y hy
            rw [h4] at hy; cases hy; exact h3
          · exact .inl ⟨hlt, c, h1, h47, h2, x, h3, h4⟩
        · refine .inr (.inr ⟨hlt, ?_⟩)
          show ∀ _, _
          intro y hy
          rw [List.getElem?_eq_none (by rw [HP.out.1]; omega)] at hy; cases hy
      rcases HW with ⟨hlt, c, hc, h47, hix, x, hx, hxk⟩ | ⟨hlt, hix, HE⟩ | ⟨hlt, HE⟩
      · have d4 : decide ((k : Int) < (s.size : Int)) = true := decide_eq_true (by omega)
        have d5 : ((c : Int) == 47) = false := by simp; omega
        have d6 : ¬ (c : Int) = 47 := by omega
        have HN : Hid (letB c = true → ∃ D, PathSt l F (k + 1) D) := fun h => by
          obtain ⟨D, hD⟩ := HS.out
          exact ⟨D, hD.char hxk (by rw [hx]; exact h47) (by rw [hx]; exact h)⟩
        have HF : Hid (letB c = false → r = false) := fun h => by
          cases e : r
          · rfl
          · have := (HI.out e).2.2.1 x (List.mem_of_getElem? hxk)
            rw [hx, h] at this
            rcases this with h1 | h1
            · cases h1
            · exact absurd h1 h47
        clear hxk hx HD HI HS HL HP
        have H : c < 45 ∨ c = 45 ∨ c = 46 ∨ c = 47 ∨ (48 ≤ c ∧ c ≤ 57) ∨ (58 ≤ c ∧ c ≤ 94) ∨ c = 95 ∨ c = 96 ∨ (97 ≤ c ∧ c ≤ 122) ∨ 123 ≤ c := by omega
        have G1 : Hid ((45 ≤ c ∧ c ≤ 46) ∨ (48 ≤ c ∧ c ≤ 57) ∨ c = 95 ∨ (97 ≤ c ∧ c ≤ 122) → ∃ D, PathSt l F (k + 1) D) := fun h => HN.out (by unfold letB; simp; omega)
        have G2 : Hid (¬ ((45 ≤ c ∧ c ≤ 46) ∨ (48 ≤ c ∧ c ≤ 57) ∨ c = 95 ∨ (97 ≤ c ∧ c ≤ 122)) → r = false) := fun h => HF.out (by unfold letB; simp; omega)
        clear HN HF
        go_upto_region 9 with fail
        rcases H with h | h | h | h | h | h | h | h | h | h
        all_goals first | have f0 : decide ((97 : Int) ≤ (c : Int)) = true := decide_eq_true (by omega) | have f0 : decide ((97 : Int) ≤ (c : Int)) = false := decide_eq_false (by omega)
        all_goals first | have f1 : decide ((c : Int) ≤ 122) = true := decide_eq_true (by omega) | have f1 : decide ((c : Int) ≤ 122) = false := decide_eq_false (by omega)
        all_goals first | have f2 : decide ((48 : Int) ≤ (c : Int)) = true := decide_eq_true (by omega) | have f2 : decide ((48 : Int) ≤ (c : Int)) = false := decide_eq_false (by omega)
        all_goals first | have f3 : decide ((c : Int) ≤ 57) = true := decide_eq_true (by omega) | have f3 : decide ((c : Int) ≤ 57) = false := decide_eq_false (by omega)
        all_goals first | have g0 : ((c : Int) == 46) = false := beq_false_of_ne (by omega) | have g0 : ((c : Int) == 46) = true := beq_iff_eq.2 (by omega)
        all_goals first | have g1 : ((c : Int) == 95) = false := beq_false_of_ne (by omega) | have g1 : ((c : Int) == 95) = true := beq_iff_eq.2 (by omega)
        all_goals first | have g2 : ((c : Int) == 45) = false := beq_false_of_ne (by omega) | have g2 : ((c : Int) == 45) = true := beq_iff_eq.2 (by omega)
        all_goals go_wp2_with fail
        all_goals first
          | (go_ret; exact ⟨ret_bool (G2.out (by omega)).symm, HB.out⟩)
          | (go_roundw
             · exact ⟨F, k + 1, by omega, by omega, rfl, by go_num, G1.out (by omega), HB⟩
             · simp [intOf]; omega)
      case' inr.inl => have d4 : decide (k < s.size) = true := decide_eq_true (by omega)
      case' inr.inr => have d4 : decide (k < s.size) = false := decide_eq_false (by omega)
      all_goals
        have hsl2 := str_slice s F k hFk hks
        have hpl : (s.extract F k).toList = (l.take k).drop F := by rw [str_piece, ← HP.out.2]
        obtain ⟨p, hp⟩ : ∃ p, p = s.extract F k := ⟨_, rfl⟩
        rw [← hp] at hsl2 hpl
        have HM : Hid (partB p.toList = false → r = false) := fun h => by
          obtain ⟨D, hD⟩ := HS.out
          cases e : r
          · rfl
          · have := (HI.out e).2.2.2.1 _ (hD.mem (by rw [HP.out.1]; exact hks) HE.out).1
            rw [← hpl, h] at this; cases this
        have HM1 : Hid (F = 0 → p.toList = [111, 108, 100] → r = false) := fun h h2 => by
          obtain ⟨D, hD⟩ := HS.out
          cases e : r
          · rfl
          · refine absurd ?_ (HI.out e).2.2.2.2.1
            rw [(hD.mem (by rw [HP.out.1]; exact hks) HE.out).2 h, ← hpl, h2]
        have HM2 : Hid (F = 0 → p.toList = [116, 109, 112] → r = false) := fun h h2 => by
          obtain ⟨D, hD⟩ := HS.out
          cases e : r
          · rfl
          · refine absurd ?_ (HI.out e).2.2.2.2.2
            rw [(hD.mem (by rw [HP.out.1]; exact hks) HE.out).2 h, ← hpl, h2]
        have HN : Hid (partB p.toList = true → (F = 0 → p.toList ≠ [111, 108, 100]) → (F = 0 → p.toList ≠ [116, 109, 112]) → ∃ D, PathSt l (k + 1) (k + 1) D) := fun h h1 h2 => by
          obtain ⟨D, hD⟩ := HS.out
          rw [hpl] at h h1 h2
          exact ⟨_, hD.part (by rw [HP.out.1]; exact hks) HE.out h h1 h2⟩
        clear hp hpl HD HI HS HL HP HE
        by_cases c1 : p.toList = []
        · have HF2 := Lib.hid (HM.out (by rw [c1]; rfl))
          clear HM HM1 HM2 HN
          have e1 : p.toList.isEmpty = true := by rw [c1]; rfl
          go_wp2_with fail
          go_ret
          exact ⟨ret_bool HF2.out.symm, HB.out⟩
        have n1 : p.toList.isEmpty = false := by cases h : p.toList with | nil => exact absurd h c1 | cons _ _ => rfl
        by_cases c2 : p.toList = [46]
        · have HF2 := Lib.hid (HM.out (by rw [c2]; rfl))
          clear HM HM1 HM2 HN
          have e1 : (p.toList == [46]) = true := by rw [c2]; rfl
          go_wp2_with fail
          go_ret
          exact ⟨ret_bool HF2.out.symm, HB.out⟩
        have n2 : (p.toList == [46]) = false := by simpa using c2
        by_cases c3 : p.toList = [46, 46]
        · have HF2 := Lib.hid (HM.out (by rw [c3]; rfl))
          clear HM HM1 HM2 HN
          have e1 : (p.toList == [46, 46]) = true := by rw [c3]; rfl
          go_wp2_with fail
          go_ret
          exact ⟨ret_bool HF2.out.symm, HB.out⟩
        have n3 : (p.toList == [46, 46]) = false := by simpa using c3
        have HG := Lib.hid (HN.out (by unfold partB; simp [c1, c2, c3]))
        clear HM HN
        by_cases c0 : F = 0
        · have z : ((F : Int) == 0) = true := beq_iff_eq.2 (by omega)
          by_cases c4 : p.toList = [111, 108, 100]
          · have HF2 := Lib.hid (HM1.out c0 c4)
            have e1 : (p.toList == [111, 108, 100]) = true := by rw [c4]; rfl
            clear HM1 HM2 HG c0
            go_wp2_with fail
            go_ret
            exact ⟨ret_bool HF2.out.symm, HB.out⟩
          have n4 : (p.toList == [111, 108, 100]) = false := by simpa using c4
          by_cases c5 : p.toList = [116, 109, 112]
          · have HF2 := Lib.hid (HM2.out c0 c5)
            have e1 : (p.toList == [116, 109, 112]) = true := by rw [c5]; rfl
            clear HM1 HM2 HG c0
            go_wp2_with fail
            go_ret
            exact ⟨ret_bool HF2.out.symm, HB.out⟩
          have n5 : (p.toList == [116, 109, 112]) = false := by simpa using c5
          have HG2 := Lib.hid (HG.out (fun _ => c4) (fun _ => c5))
          clear HM1 HM2 HG c0
          go_wp2_with fail
          go_roundw
          case rel => exact ⟨k + 1, k + 1, by omega, by omega, by go_num, by go_num, HG2, HB⟩
          case measure => simp [intOf]; omega
        · have z : ((F : Int) == 0) = false := beq_false_of_ne (by omega)
          have HG2 := Lib.hid (HG.out (fun h => absurd h c0) (fun h => absurd h c0))
          clear HM1 HM2 HG
          go_wp2_with fail
          go_roundw
          case rel => exact ⟨k + 1, k + 1, by omega, by omega, by go_num, by go_num, HG2, HB⟩
          case measure => simp [intOf]; omega
end Go.Proofs.YthpinjmlnongpaaDoor
