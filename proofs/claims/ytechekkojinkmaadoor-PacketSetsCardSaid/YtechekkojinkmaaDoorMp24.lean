/-
  The document's Path: whether a file of a set may be named so.
  The document's Formed.
-/
import Derived.Test.YtechekkojinkmaaDoorMp23
import Derived.Deep.QuietTactic
import Derived.BigQuiet
section
namespace Go.Proofs.YtechekkojinkmaaDoor
open Go.ChangeShapes Go.WideShapes Go.ChangeAt Go.RowKit Go.Joins
set_option linter.unusedVariables false

theorem str_slice (s : ByteArray) (a b : Nat) (h1 : a ≤ b) (h2 : b ≤ s.size) (W : World) : (Instr.slice 9 (.string s) (some (.int .i64 (a : Int))) (some (.int .i64 (b : Int))) none).run Tryd.prog W = .ok (.string (s.extract a b)) W := by
  rw [run_slice_string (h := Tryd.underlying9)]
  · simp
  · omega
  · omega
  · omega
theorem str_slice_from (s : ByteArray) (a : Nat) (h2 : a ≤ s.size) (W : World) : (Instr.slice 9 (.string s) (some (.int .i64 (a : Int))) none none).run Tryd.prog W = .ok (.string (s.extract a s.size)) W := by
  rw [run_slice_string_from_if (h := Tryd.underlying9), if_pos ⟨by omega, by omega⟩]
  simp
theorem str_piece (s : ByteArray) (a b : Nat) : (s.extract a b).toList = (s.data.toList.take b).drop a := by
  rw [ByteArray.toList_eq, Lib.extract_data, List.drop_take]
set_option maxRecDepth 100000 in
set_option maxHeartbeats 4000000 in
theorem refPath_any (s : ByteArray) (hs : s.size ≤ 9223372036854775807) (w : World) :
    Calls Tryd.prog 27 #[.string s] w fun e w' => e = .returned (.bool (nameB s.data.toList)) ∧ Below w.heap.size w w' := by
  have hl : s.data.toList.length = s.size := Array.length_toList
  obtain ⟨l, hL⟩ : ∃ l, l = s.data.toList := ⟨_, rfl⟩
  obtain ⟨r, hr⟩ : ∃ r, r = nameB l := ⟨_, rfl⟩
  rw [← hL] at hl
  rw [← hL, ← hr]
  have HB0 : Hid (Below w.heap.size w w) := Below.refl _ _
  have HI : Hid (r = true → l.length ≤ 40 ∧ Lib.hasSuffix l [46, 103, 121, 115] = false ∧ (∀ c ∈ l, letB c.toNat = true ∨ c.toNat = 47) ∧ (∀ p ∈ partsN l, partB p = true) ∧ (partsN l).head? ≠ some [111, 108, 100] ∧ (partsN l).head? ≠ some [116, 109, 112]) := by
    show _ → _
    rw [hr]; exact (nameB_iff l).1
  by_cases h1 : 40 < s.size
  · have hR : Hid (r = false) := by
      show _ = _
      cases e : r
      · rfl
      · have := (HI.out e).1; omega
    clear hr
    have d1 : decide ((40 : Int) < (s.size : Int)) = true := decide_eq_true (by omega)
    go_enter Tryd.func27, Tryd.ntmps27
    go_wp2_with fail
    go_ret
    exact ⟨ret_bool hR.out.symm, HB0.out⟩
  have d1 : decide ((40 : Int) < (s.size : Int)) = false := decide_eq_false (by omega)
  have HD : Hid (∀ F D, PathSt l F (l.length + 1) D → Lib.hasSuffix l [46, 103, 121, 115] = false → r = true) := fun F D h hs => by rw [hr]; exact h.done (by omega) hs
  have HX := Lib.hasSuffix_raw s ⟨#[46, 103, 121, 115]⟩
  rw [← hL, ByteArray.toList_eq ⟨#[46, 103, 121, 115]⟩] at HX
  obtain ⟨q, hq⟩ : ∃ q, q = Lib.hasSuffix l [46, 103, 121, 115] := ⟨_, rfl⟩
  have HX : (decide (4 ≤ s.size) && ((s.extract (s.size - 4) s.size).toList == [46, 103, 121, 115])) = q := by rw [hq]; exact HX
  rw [← hq] at HD HI
  clear hq hr
  have HW : (s.size < 4 ∧ q = false) ∨ ∃ m : Nat, s.size = m + 4 ∧ ((s.extract m s.size).toList == [46, 103, 121, 115]) = q := by
    by_cases h4 : 4 ≤ s.size
    · refine .inr ⟨s.size - 4, by omega, ?_⟩
      rw [decide_eq_true h4, Bool.true_and] at HX
      exact HX
    · refine .inl ⟨by omega, ?_⟩
      rw [decide_eq_false h4, Bool.false_and] at HX
      exact HX.symm
  clear HX
  rcases HW with ⟨h4, rfl⟩ | ⟨m, hm, hx⟩
  case' inr =>
    have d2 : decide ((4 : Int) ≤ (s.size : Int)) = true := decide_eq_true (by omega)
    have hsl := str_slice_from s m (by omega)
    have hm1 : (s.size : Int) - 4 = (m : Int) := by omega
    have h44 : 4 ≤ s.size := by omega
    clear hm
    cases q
    case' true =>
      have hR : Hid (r = false) := by
        show _ = _
        cases e : r
        · rfl
        · have := (HI.out e).2.1; cases this
      clear HI HD
      go_enter Tryd.func27, Tryd.ntmps27
      go_wp2_with fail
      go_ret
      exact ⟨ret_bool hR.out.symm, HB0.out⟩
  case' inl =>
    have d2 : decide ((4 : Int) ≤ (s.size : Int)) = false := decide_eq_false (by omega)
  all_goals
    go_enter Tryd.func27, Tryd.ntmps27
    go_wp2_with fail
    have HL : Hid (∀ k, k < s.size → ∃ c : Nat, c < 256 ∧ (∀ W, (Instr.index 9 (.string s) (.int .i64 (k : Int))).run Tryd.prog W = .ok (.int .u8 (c : Int)) W) ∧ ∃ x : UInt8, x.toNat = c ∧ l[k]? = some x) := by
      show ∀ _, _
      rw [hL]; exact str_index s
    have HP : Hid (l.length = s.size ∧ l = s.data.toList) := ⟨hl, hL⟩
    have HS0 : Hid (∃ D, PathSt l 0 0 D) := ⟨[], .start l⟩
    clear hl hL hs
    go_loopw [3, 4] (fun f i wr => ∃ F k : Nat, F ≤ k ∧ k ≤ s.size + 1 ∧ f = .int .i64 F ∧ i = .int .i64 k ∧ Hid (∃ D, PathSt l F k D) ∧ Hid (Below w.heap.size w wr)) (fun _ i _ => s.size + 1 - (intOf i).toNat)
    case atStart => exact ⟨0, 0, by omega, by omega, rfl, rfl, HS0, HB0⟩
    case round =>
      obtain ⟨F, k, hFk, hk, rfl, rfl, HS, HB⟩ := hrel
      clear HS0 HB0
      by_cases hend : k = s.size + 1
      · have HF2 : Hid (r = true) := by
          obtain ⟨D, h⟩ := HS.out
          have e1 := HP.out.1
          exact HD.out F D (by rw [e1, ← hend]; exact h) (by first | rfl | trivial)
        have d3 : ¬ k ≤ s.size := by omega
        have d3b : decide (k ≤ s.size) = false := decide_eq_false (by omega)
        clear HD HI HS HL HP hend
        go_wp2_with fail
        go_ret
        exact ⟨ret_bool HF2.out.symm, HB.out⟩
      have d3b : decide (k ≤ s.size) = true := decide_eq_true (by omega)
      have hks : k ≤ s.size := by omega
      clear hend
      have HW : (k < s.size ∧ ∃ c : Nat, c < 256 ∧ c ≠ 47 ∧ (∀ W, (Instr.index 9 (.string s) (.int .i64 (k : Int))).run Tryd.prog W = .ok (.int .u8 (c : Int)) W) ∧ ∃ x : UInt8, x.toNat = c ∧ l[k]? = some x) ∨
          (k < s.size ∧ (∀ W, (Instr.index 9 (.string s) (.int .i64 (k : Int))).run Tryd.prog W = .ok (.int .u8 47) W) ∧ Hid (∀ x, l[k]? = some x → x.toNat = 47)) ∨ (¬ k < s.size ∧ Hid (∀ x, l[k]? = some x → x.toNat = 47)) := by
        by_cases hlt : k < s.size
        · obtain ⟨c, h1, h2, x, h3, h4⟩ := HL.out k hlt
          by_cases h47 : c = 47
          · subst h47
            refine .inr (.inl ⟨hlt, h2, ?_⟩)
            show ∀ _, _
            intro y hy
            rw [h4] at hy; cases hy; exact h3
          · exact .inl ⟨hlt, c, h1, h47, h2, x, h3, h4⟩
        · refine .inr (.inr ⟨hlt, ?_⟩)
          show ∀ _, _
          intro y hy
          rw [List.getElem?_eq_none (by rw [HP.out.1]; omega)] at hy; cases hy
      rcases HW with ⟨hlt, c, hc, h47, hix, x, hx, hxk⟩ | ⟨hlt, hix, HE⟩ | ⟨hlt, HE⟩
      · have d4 : decide ((k : Int) < (s.size : Int)) = true := decide_eq_true (by omega)
        have d5 : ((c : Int) == 47) = false := by simp; omega
        have d6 : ¬ (c : Int) = 47 := by omega
        have HN : Hid (letB c = true → ∃ D, PathSt l F (k + 1) D) := fun h => by
          obtain ⟨D, hD⟩ := HS.out
          exact ⟨D, hD.char hxk (by rw [hx]; exact h47) (by rw [hx]; exact h)⟩
        have HF : Hid (letB c = false → r = false) := fun h => by
          cases e : r
          · rfl
          · have := (HI.out e).2.2.1 x (List.mem_of_getElem? hxk)
            rw [hx, h] at this
            rcases this with h1 | h1
            · cases h1
            · exact absurd h1 h47
        clear hxk hx HD HI HS HL HP
        have H : c < 45 ∨ c = 45 ∨ c = 46 ∨ c = 47 ∨ (48 ≤ c ∧ c ≤ 57) ∨ (58 ≤ c ∧ c ≤ 94) ∨ c = 95 ∨ c = 96 ∨ (97 ≤ c ∧ c ≤ 122) ∨ 123 ≤ c := by omega
        have G1 : Hid ((45 ≤ c ∧ c ≤ 46) ∨ (48 ≤ c ∧ c ≤ 57) ∨ c = 95 ∨ (97 ≤ c ∧ c ≤ 122) → ∃ D, PathSt l F (k + 1) D) := fun h => HN.out (by unfold letB; simp; omega)
        have G2 : Hid (¬ ((45 ≤ c ∧ c ≤ 46) ∨ (48 ≤ c ∧ c ≤ 57) ∨ c = 95 ∨ (97 ≤ c ∧ c ≤ 122)) → r = false) := fun h => HF.out (by unfold letB; simp; omega)
        clear HN HF
        go_upto_region 9 with fail
        rcases H with h | h | h | h | h | h | h | h | h | h
        all_goals first | have f0 : decide ((97 : Int) ≤ (c : Int)) = true := decide_eq_true (by omega) | have f0 : decide ((97 : Int) ≤ (c : Int)) = false := decide_eq_false (by omega)
        all_goals first | have f1 : decide ((c : Int) ≤ 122) = true := decide_eq_true (by omega) | have f1 : decide ((c : Int) ≤ 122) = false := decide_eq_false (by omega)
        all_goals first | have f2 : decide ((48 : Int) ≤ (c : Int)) = true := decide_eq_true (by omega) | have f2 : decide ((48 : Int) ≤ (c : Int)) = false := decide_eq_false (by omega)
        all_goals first | have f3 : decide ((c : Int) ≤ 57) = true := decide_eq_true (by omega) | have f3 : decide ((c : Int) ≤ 57) = false := decide_eq_false (by omega)
        all_goals first | have g0 : ((c : Int) == 46) = false := beq_false_of_ne (by omega) | have g0 : ((c : Int) == 46) = true := beq_iff_eq.2 (by omega)
        all_goals first | have g1 : ((c : Int) == 95) = false := beq_false_of_ne (by omega) | have g1 : ((c : Int) == 95) = true := beq_iff_eq.2 (by omega)
        all_goals first | have g2 : ((c : Int) == 45) = false := beq_false_of_ne (by omega) | have g2 : ((c : Int) == 45) = true := beq_iff_eq.2 (by omega)
        all_goals go_wp2_with fail
        all_goals first
          | (go_ret; exact ⟨ret_bool (G2.out (by omega)).symm, HB.out⟩)
          | (go_roundw
             · exact ⟨F, k + 1, by omega, by omega, rfl, by go_num, G1.out (by omega), HB⟩
             · simp [intOf]; omega)
      case' inr.inl => have d4 : decide (k < s.size) = true := decide_eq_true (by omega)
      case' inr.inr => have d4 : decide (k < s.size) = false := decide_eq_false (by omega)
      all_goals
        have hsl2 := str_slice s F k hFk hks
        have hpl : (s.extract F k).toList = (l.take k).drop F := by rw [str_piece, ← HP.out.2]
        obtain ⟨p, hp⟩ : ∃ p, p = s.extract F k := ⟨_, rfl⟩
        rw [← hp] at hsl2 hpl
        have HM : Hid (partB p.toList = false → r = false) := fun h => by
          obtain ⟨D, hD⟩ := HS.out
          cases e : r
          · rfl
          · have := (HI.out e).2.2.2.1 _ (hD.mem (by rw [HP.out.1]; exact hks) HE.out).1
            rw [← hpl, h] at this; cases this
        have HM1 : Hid (F = 0 → p.toList = [111, 108, 100] → r = false) := fun h h2 => by
          obtain ⟨D, hD⟩ := HS.out
          cases e : r
          · rfl
          · refine absurd ?_ (HI.out e).2.2.2.2.1
            rw [(hD.mem (by rw [HP.out.1]; exact hks) HE.out).2 h, ← hpl, h2]
        have HM2 : Hid (F = 0 → p.toList = [116, 109, 112] → r = false) := fun h h2 => by
          obtain ⟨D, hD⟩ := HS.out
          cases e : r
          · rfl
          · refine absurd ?_ (HI.out e).2.2.2.2.2
            rw [(hD.mem (by rw [HP.out.1]; exact hks) HE.out).2 h, ← hpl, h2]
        have HN : Hid (partB p.toList = true → (F = 0 → p.toList ≠ [111, 108, 100]) → (F = 0 → p.toList ≠ [116, 109, 112]) → ∃ D, PathSt l (k + 1) (k + 1) D) := fun h h1 h2 => by
          obtain ⟨D, hD⟩ := HS.out
          rw [hpl] at h h1 h2
          exact ⟨_, hD.part (by rw [HP.out.1]; exact hks) HE.out h h1 h2⟩
        clear hp hpl HD HI HS HL HP HE
        by_cases c1 : p.toList = []
        · have HF2 := Lib.hid (HM.out (by rw [c1]; rfl))
          clear HM HM1 HM2 HN
          have e1 : p.toList.isEmpty = true := by rw [c1]; rfl
          go_wp2_with fail
          go_ret
          exact ⟨ret_bool HF2.out.symm, HB.out⟩
        have n1 : p.toList.isEmpty = false := by cases h : p.toList with | nil => exact absurd h c1 | cons _ _ => rfl
        by_cases c2 : p.toList = [46]
        · have HF2 := Lib.hid (HM.out (by rw [c2]; rfl))
          clear HM HM1 HM2 HN
          have e1 : (p.toList == [46]) = true := by rw [c2]; rfl
          go_wp2_with fail
          go_ret
          exact ⟨ret_bool HF2.out.symm, HB.out⟩
        have n2 : (p.toList == [46]) = false := by simpa using c2
        by_cases c3 : p.toList = [46, 46]
        · have HF2 := Lib.hid (HM.out (by rw [c3]; rfl))
          clear HM HM1 HM2 HN
          have e1 : (p.toList == [46, 46]) = true := by rw [c3]; rfl
          go_wp2_with fail
          go_ret
          exact ⟨ret_bool HF2.out.symm, HB.out⟩
        have n3 : (p.toList == [46, 46]) = false := by simpa using c3
        have HG := Lib.hid (HN.out (by unfold partB; simp [c1, c2, c3]))
        clear HM HN
        by_cases c0 : F = 0
        · have z : ((F : Int) == 0) = true := beq_iff_eq.2 (by omega)
          by_cases c4 : p.toList = [111, 108, 100]
          · have HF2 := Lib.hid (HM1.out c0 c4)
            have e1 : (p.toList == [111, 108, 100]) = true := by rw [c4]; rfl
            clear HM1 HM2 HG c0
            go_wp2_with fail
            go_ret
            exact ⟨ret_bool HF2.out.symm, HB.out⟩
          have n4 : (p.toList == [111, 108, 100]) = false := by simpa using c4
          by_cases c5 : p.toList = [116, 109, 112]
          · have HF2 := Lib.hid (HM2.out c0 c5)
            have e1 : (p.toList == [116, 109, 112]) = true := by rw [c5]; rfl
            clear HM1 HM2 HG c0
            go_wp2_with fail
            go_ret
            exact ⟨ret_bool HF2.out.symm, HB.out⟩
          have n5 : (p.toList == [116, 109, 112]) = false := by simpa using c5
          have HG2 := Lib.hid (HG.out (fun _ => c4) (fun _ => c5))
          clear HM1 HM2 HG c0
          go_wp2_with fail
          go_roundw
          case rel => exact ⟨k + 1, k + 1, by omega, by omega, by go_num, by go_num, HG2, HB⟩
          case measure => simp [intOf]; omega
        · have z : ((F : Int) == 0) = false := beq_false_of_ne (by omega)
          have HG2 := Lib.hid (HG.out (fun h => absurd h c0) (fun h => absurd h c0))
          clear HM1 HM2 HG
          go_wp2_with fail
          go_roundw
          case rel => exact ⟨k + 1, k + 1, by omega, by omega, by go_num, by go_num, HG2, HB⟩
          case measure => simp [intOf]; omega
end Go.Proofs.YtechekkojinkmaaDoor
end

section
namespace Go.Proofs.YtechekkojinkmaaDoor
open Go.ChangeShapes Go.WideShapes Go.ChangeAt Go.RowKit Go.Joins
set_option linter.unusedVariables false

theorem cnt_bounds {z s : Int} (h0 : 0 ≤ z) (h1 : 1 ≤ s) (h2 : s ≤ 256) (hc : 0 < cntN z s) : (((cntN z s : Nat) : Int) - 1) * s < z ∧ z ≤ ((cntN z s : Nat) : Int) * s := by
  have hz : 1 ≤ z := by
    by_cases h : z < 1
    · rw [cnt_none (.inl h)] at hc; omega
    · omega
  rw [cnt_up hz h1 h2]
  have e := Int.mul_ediv_add_emod (z - 1) s
  have m0 := Int.emod_nonneg (z - 1) (show s ≠ 0 by omega)
  have m1 := Int.emod_lt_of_pos (z - 1) (show 0 < s by omega)
  have e2 : ((z - 1) / s + 1) * s = s * ((z - 1) / s) + s := by rw [Int.add_mul, Int.one_mul, Int.mul_comm]
  have e3 : ((z - 1) / s + 1 - 1) * s = s * ((z - 1) / s) := by rw [Int.add_sub_cancel, Int.mul_comm]
  rw [e2, e3]
  omega
/-- The last slice of a file is what is left; each other one is whole. -/
theorem want_last {z s : Int} (h0 : 0 ≤ z) (h1 : 1 ≤ s) (h2 : s ≤ 256) {k : Nat} (hk : k < cntN z s) : (k + 1 = cntN z s → wantI s z k = z - (k : Int) * s) ∧ (k + 1 ≠ cntN z s → wantI s z k = s) := by
  obtain ⟨b1, b2⟩ := cnt_bounds h0 h1 h2 (by omega)
  obtain ⟨c, hc⟩ : ∃ c, c = cntN z s := ⟨_, rfl⟩
  rw [← hc] at b1 b2 hk ⊢
  unfold wantI
  refine ⟨fun h => ?_, fun h => ?_⟩
  · have e : (c : Int) * s = (k : Int) * s + s := by rw [← h]; push_cast; rw [Int.add_mul, Int.one_mul]
    omega
  · have e : ((k : Int) + 1) * s ≤ ((c : Int) - 1) * s := Int.mul_le_mul_of_nonneg_right (by omega) (by omega)
    rw [Int.add_mul, Int.one_mul] at e
    omega
set_option maxRecDepth 1000000 in
set_option maxHeartbeats 16000000 in
theorem refFormed_any (S : St) (fa : Option Addr) (fc : Nat) (sa : Option Addr) (sc : Nat) (w : World) (hs : SetAt w S fa fc sa sc) :
    Calls Tryd.prog 9 #[.agg (rowArr 3 (setV S fa fc sa sc))] w (FormedPost S w) := by
  have mixed : Tryd.prog.follows .mixedOrders = true := by kernel_rfl
  have hB0 : Below w.heap.size w (w.alloc (.cells (rowArr 3 (setV S fa fc sa sc)) 25)) := (Below.refl _ _).alloc (Nat.le_refl _) _
  have HX := Lib.hid (SetBox.new w S fa fc sa sc)
  have HS := Lib.hid (hs.below hB0)
  have HB := Lib.hid hB0
  have hfl := hs.files.lt
  have hsl := hs.slices.lt
  obtain ⟨sr1, sr2⟩ := hs.slice
  obtain ⟨PQ, hPQ⟩ : ∃ PQ, PQ = FormedPost S w := ⟨_, rfl⟩
  have HPQ := Lib.hid hPQ
  rw [← hPQ]
  obtain ⟨arr, harr⟩ : ∃ arr, arr = rowArr 3 (setV S fa fc sa sc) := ⟨_, rfl⟩
  rw [← harr] at HX HS HB ⊢
  clear harr hB0 hs hPQ
  go_enter Tryd.func9, Tryd.ntmps9
  go_upto_region 1 with fail
  obtain ⟨b, hb⟩ : ∃ b, b = w.heap.size := ⟨_, rfl⟩
  rw [← hb] at HX ⊢
  generalize w.alloc (.cells arr 25) = w1 at *
  clear hb
  have c0 := HX.out.c0
  have c1 := HX.out.c1
  have c2 := HX.out.c2
  have HNO : Hid (∀ w', ¬ FormedP S → Below w.heap.size w w' → PQ (.returned (.bool false)) w') := by
    show ∀ _, _
    rw [HPQ.out]; exact fun w' h hb => FormedPost.no h hb
  by_cases q1 : S.slice < 1
  · have d : decide (S.slice < 1) = true := decide_eq_true q1
    have HR := Lib.hid (HNO.out w1 (fun h => by have := h.s1; omega) HB.out)
    go_wp2_with fail
    exact HR.out
  have d1 : decide (S.slice < 1) = false := decide_eq_false q1
  by_cases q2 : 256 < S.slice
  · have d : decide (256 < S.slice) = true := decide_eq_true q2
    have HR := Lib.hid (HNO.out w1 (fun h => by have := h.s2; omega) HB.out)
    go_wp2_with fail
    exact HR.out
  have d2 : decide (256 < S.slice) = false := decide_eq_false q2
  by_cases q4 : S.files.length < 1
  · have d : decide ((S.files.length : Int) < 1) = true := decide_eq_true (by omega)
    have HR := Lib.hid (HNO.out w1 (fun h => by have := h.f1; omega) HB.out)
    go_wp2_with fail
    exact HR.out
  have d4 : decide ((S.files.length : Int) < 1) = false := decide_eq_false (by omega)
  by_cases q5 : 8 < S.files.length
  · have d : decide ((8 : Int) < (S.files.length : Int)) = true := decide_eq_true (by omega)
    have HR := Lib.hid (HNO.out w1 (fun h => by have := h.f2; omega) HB.out)
    go_wp2_with fail
    exact HR.out
  have d5 : decide ((8 : Int) < (S.files.length : Int)) = false := decide_eq_false (by omega)
  by_cases q3 : 64 < S.slices.length
  · have d : decide ((64 : Int) < (S.slices.length : Int)) = true := decide_eq_true (by omega)
    have HR := Lib.hid (HNO.out w1 (fun h => by have := h.m1; omega) HB.out)
    go_wp2_with fail
    exact HR.out
  have d3 : decide ((64 : Int) < (S.slices.length : Int)) = false := decide_eq_false (by omega)
  have hL8 : S.files.length ≤ 8 := by omega
  have hM64 : S.slices.length ≤ 64 := by omega
  have s1 : 1 ≤ S.slice := by omega
  have s2 : S.slice ≤ 256 := by omega
  have HYES : Hid (Good S S.files.length S.slices.length → FormedP S) := fun g => ⟨s1, s2, hM64, by omega, hL8, g⟩
  go_upto_region 4 with fail
  clear d1 d2 d3 d4 d5 q1 q2 q3 q4 q5
  go_wp2_with fail
  have HG0 : Hid (Good S 0 0) := .zero
  have HW0 : Hid (Below w1.heap.size w1 w1) := Below.refl _ _
  go_loopw [3, 39] (fun t i wr => ∃ n k : Nat, k ≤ S.files.length ∧ t = .int .i64 n ∧ i = .int .i64 k ∧ Hid (Good S k n) ∧ Hid (Below w1.heap.size w1 wr)) (fun _ i _ => S.files.length - (intOf i).toNat)
  case atStart => exact ⟨0, 0, by omega, rfl, rfl, HG0, HW0⟩
  case round =>
    obtain ⟨n, k, hk, rfl, rfl, HG, HW⟩ := hrel
    clear HG0 HW0
    have hn64 : n ≤ 64 := by have := HG.out.room; omega
    by_cases hlt : k < S.files.length
    · have HNR : Hid (∀ w', ¬ FileOk S n k → Below w1.heap.size w1 w' → PQ (.returned (.bool false)) w') := fun w' h hb => HNO.out w' (fun hf => h (not_formed HG.out hlt hf)) (HB.out.trans (hb.mono HB.out.size))
      obtain ⟨fb, off, rfl, hbl, hx⟩ := fils_one (HS.out.files.below HW.out) hlt
      have hok := HS.out.files.rng _ (List.getElem_mem hlt)
      have hgd : S.files.getD k zFil = S.files[k] := by simp [List.getD, hlt]
      obtain ⟨f, hf⟩ : ∃ f, f = S.files[k] := ⟨_, rfl⟩
      rw [← hf] at hx hok hgd
      have HGD := Lib.hid hgd
      have HOK := Lib.hid hok
      have HXC := Lib.hid hx
      obtain ⟨SX, hSX⟩ : ∃ SX, SX = rowArr 35 (filV f) := ⟨_, rfl⟩
      have VX : Hid (rowArr 35 (filV f) = SX) := hSX.symm
      have hSXs : SX.size = 35 := by rw [hSX, rowArr_size]
      have hSX1 : SX.all (·.oneCell') = true := by rw [hSX]; exact oneCell_fil f
      have HSXs := Lib.hid hSXs
      have HSX1 := Lib.hid hSX1
      have HALL : Hid (∀ c : Array Value, (wr.alloc (.cells c 41)).heap[wr.heap.size]? = some (.cells c 41 (0, 0))) := fun c => heap_alloc_last wr _
      have HALB : Hid (∀ c : Array Value, Below wr.heap.size wr (wr.alloc (.cells c 41))) := fun c => (Below.refl _ _).alloc (Nat.le_refl _) _
      have cr1 : wr.cell? ⟨b, 1, none⟩ = some (.slice (some ⟨fb, off, none⟩) S.files.length fc) := (HX.out.below HW.out).c1
      clear hx hok hf hSX hSXs hSX1 hgd
      go_upto_region 8 with (first
        | (refine wpList_load_v (by rfl) 41 _ rfl fb (off + k * 35) 35 _ SX VX.out rfl _ HXC.out und_file rfl (by kernel_rfl) ?_)
        | (refine wpList_store_arr rfl 41 _ _ rfl wr.heap.size SX rfl rfl 41 _ (HALL.out _) (by rw [HSXs.out]; kernel_rfl) (by rw [HSXs.out]; rfl) HSX1.out ?_; intro w7 HC7 hf7; have HB67 : Hid (Below wr.heap.size wr w7) := (HALB.out _).trans (hf7.out.below (HALB.out _).size (fun k hk e => by omega)); clear hf7 HALL HALB))
      have HW7 := Lib.hid (HW.out.trans (HB67.out.mono HW.out.size))
      obtain ⟨g, hg⟩ : ∃ g, g = wr.heap.size := ⟨_, rfl⟩
      rw [← hg] at HC7
      rw [← hg]
      rw [← VX.out] at HC7
      have HX7 : Hid (Row w7 g 41 35 35 (filV f)) := Row.of_whole HC7.out
      clear HB67 HC7 HXC VX HSXs HSX1 hg HW cr1
      obtain ⟨r0, r1, r34⟩ := fil_row HX7.out
      have g0 : w7.cell? ⟨b, 0, none⟩ = some (.int .i64 S.slice) := (HX.out.below HW7.out).c0
      have HCN := Lib.hid (fun w => count_any f.size S.slice w HOK.out.size HS.out.slice)
      obtain ⟨c, hc⟩ : ∃ c, c = cntN f.size S.slice := ⟨_, rfl⟩
      rw [← hc] at HCN
      have HCC := Lib.hid hc
      have hc63 : c ≤ 9223372036854775807 := by rw [hc]; have := cntN_le f.size S.slice; have := HOK.out.size.2; omega
      clear hc
      go_upto_region 9 with (go_at_call 22; refine (HCN.out _).mono ?_; rintro e w' ⟨rfl, hw⟩; obtain rfl := hw)
      clear HCN
      have hnz : (strOf f.name).size ≤ 9223372036854775807 := by rw [strOf_size]; exact HOK.out.short
      have HP := Lib.hid (refPath_any (strOf f.name) hnz w7)
      obtain ⟨q, hq⟩ : ∃ q, q = nameB (strOf f.name).data.toList := ⟨_, rfl⟩
      rw [← hq] at HP
      clear r1 r34 g0 hnz
      cases q
      · have HR : Hid (∀ w', Below w1.heap.size w1 w' → PQ (.returned (.bool false)) w') := fun w' hb => HNR.out w' (fun h => by have := h.name; rw [HGD.out, nameL_eq, ← hq] at this; cases this) hb
        clear HNR hq
        go_wp2_with (go_at_call 27; refine HP.out.mono ?_; rintro e w8 ⟨rfl, hb8⟩; have HW8 := Lib.hid (HW7.out.trans (hb8.mono HW7.out.size)); have HX8 := Lib.hid (HX7.out.below hb8 HX7.out.lt); have r1 := (fil_row HX8.out).2.1; have r34 := (fil_row HX8.out).2.2; have b2 : w8.cell? ⟨b, 2, none⟩ = some (.slice sa S.slices.length sc) := (HX.out.below HW8.out).c2; clear hb8)
        exact HR.out w8 HW8.out
      have HNM : Hid (nameL f.name = true) := by show _ = _; rw [nameL_eq, ← hq]
      clear hq
      by_cases p1 : f.size < 0
      · have e1 : decide (f.size < 0) = true := decide_eq_true p1
        have HR : Hid (∀ w', Below w1.heap.size w1 w' → PQ (.returned (.bool false)) w') := fun w' hb => HNR.out w' (fun h => by have := h.size; rw [HGD.out] at this; omega) hb
        clear HNR
        go_wp2_with (go_at_call 27; refine HP.out.mono ?_; rintro e w8 ⟨rfl, hb8⟩; have HW8 := Lib.hid (HW7.out.trans (hb8.mono HW7.out.size)); have HX8 := Lib.hid (HX7.out.below hb8 HX7.out.lt); have r1 := (fil_row HX8.out).2.1; have r34 := (fil_row HX8.out).2.2; have b2 : w8.cell? ⟨b, 2, none⟩ = some (.slice sa S.slices.length sc) := (HX.out.below HW8.out).c2; clear hb8)
        exact HR.out w8 HW8.out
      have e1 : decide (f.size < 0) = false := decide_eq_false p1
      have f0 : 0 ≤ f.size := by omega
      by_cases p2 : f.first = (n : Int)
      case' neg =>
        have e2 : (f.first == (n : Int)) = false := beq_false_of_ne p2
        have HR : Hid (∀ w', Below w1.heap.size w1 w' → PQ (.returned (.bool false)) w') := fun w' hb => HNR.out w' (fun h => by have := h.first; rw [HGD.out] at this; exact p2 this) hb
        clear HNR
        go_wp2_with (go_at_call 27; refine HP.out.mono ?_; rintro e w8 ⟨rfl, hb8⟩; have HW8 := Lib.hid (HW7.out.trans (hb8.mono HW7.out.size)); have HX8 := Lib.hid (HX7.out.below hb8 HX7.out.lt); have r1 := (fil_row HX8.out).2.1; have r34 := (fil_row HX8.out).2.2; have b2 : w8.cell? ⟨b, 2, none⟩ = some (.slice sa S.slices.length sc) := (HX.out.below HW8.out).c2; clear hb8)
        exact HR.out w8 HW8.out
      have e2 : (f.first == (n : Int)) = true := beq_iff_eq.2 p2
      have hnM := HG.out.room
      obtain ⟨r, hr⟩ : ∃ r : Nat, (S.slices.length : Int) - (n : Int) = (r : Int) := ⟨S.slices.length - n, by omega⟩
      have hrl : n + r = S.slices.length := by omega
      have HRL := Lib.hid hrl
      clear hrl
      by_cases p4 : r < c
      · have d1 : decide (r < c) = true := decide_eq_true p4
        have d2 : decide ((r : Int) < (c : Int)) = true := decide_eq_true (by omega)
        have HR : Hid (∀ w', Below w1.heap.size w1 w' → PQ (.returned (.bool false)) w') := fun w' hb => HNR.out w' (fun h => by have h1 := h.room; have h2 := HRL.out; rw [HGD.out, ← HCC.out] at h1; omega) hb
        clear HNR
        go_wp2_with (go_at_call 27; refine HP.out.mono ?_; rintro e w8 ⟨rfl, hb8⟩; have HW8 := Lib.hid (HW7.out.trans (hb8.mono HW7.out.size)); have HX8 := Lib.hid (HX7.out.below hb8 HX7.out.lt); have r1 := (fil_row HX8.out).2.1; have r34 := (fil_row HX8.out).2.2; have b2 : w8.cell? ⟨b, 2, none⟩ = some (.slice sa S.slices.length sc) := (HX.out.below HW8.out).c2; clear hb8)
        exact HR.out w8 HW8.out
      have d1 : decide (r < c) = false := decide_eq_false p4
      have d2 : decide ((r : Int) < (c : Int)) = false := decide_eq_false (by omega)
      have hnc : n + c ≤ S.slices.length := by have := HRL.out; omega
      have hc64 : c ≤ 64 := by omega
      go_upto_region 11 with (go_at_call 27; refine HP.out.mono ?_; rintro e w8 ⟨rfl, hb8⟩; have HW8 := Lib.hid (HW7.out.trans (hb8.mono HW7.out.size)); have HX8 := Lib.hid (HX7.out.below hb8 HX7.out.lt); have r1 := (fil_row HX8.out).2.1; have r34 := (fil_row HX8.out).2.2; have b2 : w8.cell? ⟨b, 2, none⟩ = some (.slice sa S.slices.length sc) := (HX.out.below HW8.out).c2; clear hb8)
      clear HP HX7 HW7 r0 r1 r34 b2 d1 d2 e1 e2 hr HRL p4
      go_wp2_with fail
      -- no name twice
      obtain ⟨wo, rfl⟩ : ∃ wo, wo = wr := ⟨_, rfl⟩
      have HA0 : Hid (∀ j, j < 0 → (S.files.getD j zFil).name ≠ f.name) := fun j h => by omega
      have HV0 : Hid (Below w8.heap.size w8 w8) := Below.refl _ _
      go_loopw [77] (fun i wr => ∃ t : Nat, t ≤ k ∧ i = .int .i64 t ∧ Hid (∀ j, j < t → (S.files.getD j zFil).name ≠ f.name) ∧ Hid (Below w8.heap.size w8 wr)) (fun i _ => k - (intOf i).toNat)
      case atStart => exact ⟨0, by omega, rfl, HA0, HV0⟩
      case round =>
        obtain ⟨t, ht, rfl, HA, HV⟩ := hrel
        clear HA0 HV0
        by_cases htk : t < k
        · have htl : t < S.files.length := by omega
          have hfo := HS.out.files.here.resolve_left (fun e => by rw [e] at hlt; simp at hlt)
          obtain ⟨fb', off', he, hb', hxx⟩ := hfo
          cases he
          have hxt := hxx t htl
          have hgt : S.files.getD t zFil = S.files[t] := by simp [List.getD, htl]
          have hokt := HS.out.files.rng _ (List.getElem_mem htl)
          obtain ⟨ft, hft⟩ : ∃ ft, ft = S.files[t] := ⟨_, rfl⟩
          rw [← hft] at hxt hgt hokt
          have hVW : Below w1.heap.size w1 wr := HW8.out.trans (HV.out.mono HW8.out.size)
          have ct : wr.cell? ⟨fb, off + t * 35, none⟩ = some (.string (strOf ft.name)) := (hxt.below hVW) 0 (by omega)
          have cb : wr.cell? ⟨b, 1, none⟩ = some (.slice (some ⟨fb, off, none⟩) S.files.length fc) := (HX.out.below hVW).c1
          have cg : wr.cell? ⟨g, 0, none⟩ = some (.string (strOf f.name)) := (HV.out.cell (World.block_lt_of_cell? w8 _ (fil_row HX8.out).1)).trans (fil_row HX8.out).1
          obtain ⟨q2, hq2⟩ : ∃ q2, q2 = decide (ft.name = f.name) := ⟨_, rfl⟩
          have HQ : ((strOf ft.name).toList == (strOf f.name).toList) = q2 := by rw [hq2]; exact str_beq hokt.byte HOK.out.byte
          obtain ⟨A, hA⟩ : ∃ A, A = strOf ft.name := ⟨_, rfl⟩
          obtain ⟨B, hB⟩ : ∃ B, B = strOf f.name := ⟨_, rfl⟩
          rw [← hA] at HQ ct
          rw [← hB] at HQ cg
          cases q2
          · have HA2 : Hid (∀ j, j < t + 1 → (S.files.getD j zFil).name ≠ f.name) := fun j hj => by
              by_cases e : j = t
              · subst e; rw [hgt]; exact of_decide_eq_false hq2.symm
              · exact HA.out j (by omega)
            clear hxx hxt hgt hft hokt hVW hq2 hA hB
            go_wp2_with fail
            go_quiet (fail)
            have HV2 := Lib.hid (HV.out.trans (show Below w8.heap.size wr (wr.drewN nq) from ⟨rfl, rfl, rfl, Nat.le_refl _, fun _ _ => rfl⟩))
            go_wp2_with fail
            go_roundw
            case rel => exact ⟨t + 1, by omega, by go_num, HA2, HV2⟩
            case measure => simp [intOf]; omega
          · have HR : Hid (∀ w', Below w1.heap.size w1 w' → PQ (.returned (.bool false)) w') := fun w' hb => HNR.out w' (fun h => by
              have h1 := h.once t htk
              rw [HGD.out, hgt] at h1
              exact h1 (of_decide_eq_true hq2.symm)) hb
            have HVW := Lib.hid hVW
            clear hxx hxt hgt hft hokt hVW hq2 hA hB HNR
            go_wp2_with fail
            go_quiet (fail)
            go_wp2_with fail
            exact HR.out _ (HVW.out.trans (show Below w1.heap.size wr (wr.drewN nq) from ⟨rfl, rfl, rfl, Nat.le_refl _, fun _ _ => rfl⟩))
        · obtain rfl : t = k := by omega
          have HVK := Lib.hid (HW8.out.trans (HV.out.mono HW8.out.size))
          have HVQ := Lib.hid HV.out
          clear HV
          go_wp2_with fail
          obtain ⟨wq, rfl⟩ : ∃ wq, wq = wr := ⟨_, rfl⟩
          have cg1 : wq.cell? ⟨g, 1, none⟩ = some (.int .i64 f.size) := by
            have e := (fil_row HX8.out).2.1
            have : w8.heap.size ≤ wq.heap.size := HVQ.out.size
            exact (HVQ.out.cell (World.block_lt_of_cell? w8 _ e)).trans e
          have hgq : g < wq.heap.size := World.block_lt_of_cell? wq _ cg1
          have HD0 : Hid (∀ i, i < 0 → (S.slices.getD (n + i) zSm).n = wantI S.slice f.size i) := fun j h => by omega
          have HU0 : Hid (Below wq.heap.size wq wq) := Below.refl _ _
          go_loopw [91] (fun i wr => ∃ u : Nat, u ≤ c ∧ i = .int .i64 u ∧ Hid (∀ i, i < u → (S.slices.getD (n + i) zSm).n = wantI S.slice f.size i) ∧ Hid (Below wq.heap.size wq wr)) (fun i _ => c - (intOf i).toNat)
          case atStart => exact ⟨0, by omega, rfl, HD0, HU0⟩
          case round =>
            obtain ⟨u, hu, rfl, HD, HU⟩ := hrel
            clear HD0 HU0
            have HUW := Lib.hid (HVK.out.trans (HU.out.mono HVK.out.size))
            by_cases huc : u < c
            · have hul : n + u < S.slices.length := by omega
              obtain ⟨sb, soff, rfl, hsb, hsx⟩ := sms_one HS.out.slices hul
              have hgx : S.slices.getD (n + u) zSm = S.slices[n + u] := by simp [List.getD, hul]
              have hokx := (HS.out.slices.rng _ (List.getElem_mem hul)).1
              have hx0 := (hsx.below HUW.out).1
              obtain ⟨xn, hxn⟩ : ∃ xn, xn = (S.slices[n + u]).n := ⟨_, rfl⟩
              rw [← hxn] at hx0 hokx
              obtain ⟨hn1, hn2⟩ := hokx
              have HXN : Hid ((S.slices.getD (n + u) zSm).n = xn) := by show _ = _; rw [hgx, hxn]
              have b0 : wr.cell? ⟨b, 0, none⟩ = some (.int .i64 S.slice) := (HX.out.below HUW.out).c0
              have b2 : wr.cell? ⟨b, 2, none⟩ = some (.slice (some ⟨sb, soff, none⟩) S.slices.length sc) := (HX.out.below HUW.out).c2
              have g1 : wr.cell? ⟨g, 1, none⟩ = some (.int .i64 f.size) := (HU.out.cell hgq).trans cg1
              obtain ⟨m, hm⟩ : ∃ m, (u : Int) * S.slice = m := ⟨_, rfl⟩
              have hm0 : 0 ≤ m := by rw [← hm]; exact Int.mul_nonneg (by omega) (by omega)
              have hm1 : m ≤ 16384 := by
                rw [← hm]
                have a1 : (u : Int) * S.slice ≤ 64 * S.slice := Int.mul_le_mul_of_nonneg_right (by omega) (by omega)
                omega
              have hWL := want_last f0 s1 s2 (k := u) (by rw [← HCC.out]; exact huc)
              rw [← HCC.out, hm] at hWL
              obtain ⟨c', hc'⟩ : ∃ c' : Nat, (c : Int) - 1 = (c' : Int) := ⟨c - 1, by omega⟩
              have HT : Hid (∀ t, wantI S.slice f.size u = t → xn = t → ∀ i, i < u + 1 → (S.slices.getD (n + i) zSm).n = wantI S.slice f.size i) := fun t h1 h2 i hi => by
                by_cases e : i = u
                · subst e; rw [HXN.out, h1, h2]
                · exact HD.out i (by omega)
              have HF : Hid (∀ t, wantI S.slice f.size u = t → ¬ xn = t → ∀ w', Below w1.heap.size w1 w' → PQ (.returned (.bool false)) w') := fun t h1 h2 w' hb => HNR.out w' (fun h => h2 (by
                have h3 := h.cut u (by rw [HGD.out, ← HCC.out]; exact huc)
                rw [HGD.out, HXN.out, h1] at h3
                exact h3)) hb
              clear hsx hgx hxn HXN HD
              by_cases hlast : u + 1 = c
              · have y1 : ((u : Int) == (c' : Int)) = true := beq_iff_eq.2 (by omega)
                obtain ⟨t, ht⟩ : ∃ t, f.size - m = t := ⟨_, rfl⟩
                have t1 : -9223372036854775808 ≤ t := by omega
                have t2 : t ≤ 9223372036854775807 := by have := HOK.out.size.2; omega
                have hw := hWL.1 hlast
                rw [ht] at hw
                by_cases hx : xn = t
                · have z1 : (xn == t) = true := beq_iff_eq.2 hx
                  have HD2 := Lib.hid (HT.out t hw hx)
                  clear HT HF hw hWL hx hlast
                  go_wp2_with fail
                  go_roundw
                  case rel => exact ⟨u + 1, by omega, by go_num, HD2, HU⟩
                  case measure => simp [intOf]; omega
                · have z1 : (xn == t) = false := beq_false_of_ne hx
                  have HR := Lib.hid (HF.out t hw hx)
                  clear HT HF hw hWL hx hlast
                  go_wp2_with fail
                  exact HR.out _ HUW.out
              · have y1 : ((u : Int) == (c' : Int)) = false := beq_false_of_ne (by omega)
                have hw := hWL.2 hlast
                by_cases hx : xn = S.slice
                · have z1 : (xn == S.slice) = true := beq_iff_eq.2 hx
                  have HD2 := Lib.hid (HT.out S.slice hw hx)
                  clear HT HF hw hWL hx hlast
                  go_wp2_with fail
                  go_roundw
                  case rel => exact ⟨u + 1, by omega, by go_num, HD2, HU⟩
                  case measure => simp [intOf]; omega
                · have z1 : (xn == S.slice) = false := beq_false_of_ne hx
                  have HR := Lib.hid (HF.out S.slice hw hx)
                  clear HT HF hw hWL hx hlast
                  go_wp2_with fail
                  exact HR.out _ HUW.out
            · obtain rfl : u = c := by omega
              have HNX : Hid (Good S (t + 1) (n + u)) := by
                have := Good.next HG.out hlt ⟨by rw [HGD.out]; exact f0, by rw [HGD.out]; exact p2, by rw [HGD.out]; exact HNM.out, fun j hj => by rw [HGD.out]; exact HA.out j hj, by rw [HGD.out, ← HCC.out]; exact hnc, fun i hi => by
                  rw [HGD.out] at hi ⊢
                  rw [← HCC.out] at hi
                  exact HD.out i hi⟩
                rw [HGD.out, ← HCC.out] at this
                exact this
              go_wp2_with fail
              go_roundw
              case rel => exact ⟨n + u, t + 1, by omega, by go_num, by go_num, HNX, HUW⟩
              case measure => simp [intOf]; omega
    · obtain rfl : k = S.files.length := by omega
      have HR : Hid (∀ r : Bool, (r = true ↔ n = S.slices.length) → PQ (.returned (.bool r)) wr) := by
        show ∀ _, _
        rw [HPQ.out]
        intro r hr
        refine ⟨⟨r, rfl, fun h => HYES.out (by rw [← hr.1 h]; exact HG.out), fun h => hr.2 (HG.out.one h.good)⟩, HB.out.trans (HW.out.mono HB.out.size)⟩
      have e2 : wr.cell? ⟨b, 2, none⟩ = some (.slice sa S.slices.length sc) := (HX.out.below HW.out).c2
      clear HG HYES
      go_wp2_with fail
      exact HR.out _ (by rw [beq_iff_eq]; omega)
end Go.Proofs.YtechekkojinkmaaDoor
end
