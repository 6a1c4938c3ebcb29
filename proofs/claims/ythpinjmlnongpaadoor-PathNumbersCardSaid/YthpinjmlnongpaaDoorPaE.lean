/-
  Package path: Right, Number; the law's awake.
-/
import Derived.Test.YthpinjmlnongpaaDoorPaD
import Derived.Test.YthpinjmlnongpaaDoorPaC
namespace Go.Proofs.YthpinjmlnongpaaDoor
open Go.ChangeShapes Go.WideShapes Go.ChangeAt Go.RowKit Go.Joins
set_option linter.unusedVariables false

theorem str_ne {s t : ByteArray} (h : ¬ s = t) : (s.toList == t.toList) = false := by
  rw [ByteArray.toList_eq, ByteArray.toList_eq]
  refine beq_false_of_ne fun e => h ?_
  rw [← strL_eta s, ← strL_eta t, e]
set_option maxRecDepth 100000 in
theorem number_any (s : ByteArray) (hs : s.size ≤ 100000) (w : World) (hc : Cv w) :
    Calls Tryd.prog 22 #[.string s] w fun e w' => e = .returned (.int .i64 (numN s.data.toList)) ∧ Below w.heap.size w w' := by
  have hl : s.data.toList.length = s.size := Array.length_toList
  have HCut := Any.strings_CutSuffix lay_cutB s ⟨#[46, 103, 121, 115]⟩ w (by omega)
  have HCut : Calls Tryd.prog 45 #[.string s, .string ⟨#[46, 103, 121, 115]⟩] w fun e w' => e = .returned (.tuple #[.string (strL (Lib.trimSuffix s.data.toList gysL)), .bool (Lib.hasSuffix s.data.toList gysL)]) ∧ w' = w := HCut
  have htl := Lib.trimSuffix_le s.data.toList gysL
  obtain ⟨r, hr⟩ : ∃ r, r = numN s.data.toList := ⟨_, rfl⟩
  rw [← hr]
  unfold numN at hr
  cases hq : Lib.hasSuffix s.data.toList gysL
  · rw [hq] at HCut hr
    have HR : Hid (r = -1) := by show _ = _; rw [hr]; rfl
    have HC := Lib.hid HCut
    clear HCut hr hq
    go_enter Tryd.func22, Tryd.ntmps22
    go_wp2_with (go_at_call 45; refine HC.out.mono ?_; rintro e w' ⟨rfl, hw⟩; obtain rfl := hw.symm)
    go_ret
    exact ⟨by rw [HR.out]; rfl, Below.refl _ _⟩
  rw [hq, if_pos rfl] at hr
  rw [hq] at HCut
  have HC := Lib.hid HCut
  obtain ⟨d, hd⟩ : ∃ d, d = strL (Lib.trimSuffix s.data.toList gysL) := ⟨_, rfl⟩
  have hdl : d.data.toList = Lib.trimSuffix s.data.toList gysL := by rw [hd, strL_data]
  have hds : d.size ≤ 100000 := by rw [hd, strL_size]; omega
  have HA := Lib.hid (atoi_any d hds w hc)
  have HV := Lib.hid (fun (v : Int) (w : World) (hc : Cv w) => volume_any v w hc)
  have HCv := Lib.hid hc
  rw [← hdl] at hr
  rw [← hd] at HC
  have HR := Lib.hid hr
  clear HCut hr hq hd hdl hc htl
  go_enter Tryd.func22, Tryd.ntmps22
  go_upto_region 5 with first
    | (go_at_call 45; refine HC.out.mono ?_; rintro e w' ⟨rfl, hw⟩; obtain rfl := hw.symm)
    | (go_at_call 46; refine HA.out.mono ?_; rintro e w1 ⟨⟨v, hv, h0, h1, rfl⟩ | ⟨hv, v, t, p, rfl⟩, hb⟩)
  · have HB := Lib.hid hb
    have HCv1 := Lib.hid (HCv.out.below hb)
    have HR2 : Hid (r = if volS v = s.data.toList then v else -1) := by
      show _ = _
      rw [HR.out, hv]
    clear HR hv hb HC HA HCv
    by_cases he : strL (volS v) = s
    · have HR3 : Hid (r = v) := by
        show _ = _
        rw [HR2.out, if_pos (by rw [← he, strL_data])]
      go_wp2_with (go_at_call 24; refine (HV.out _ _ HCv1.out).mono ?_; rintro e w2 ⟨rfl, hb2⟩)
      go_ret
      exact ⟨by rw [HR3.out]; rfl, HB.out.trans (hb2.mono HB.out.size)⟩
    · have HR3 : Hid (r = -1) := by
        show _ = _
        rw [HR2.out, if_neg (fun e => he (by rw [e, strL_eta]))]
      have n1 := str_ne he
      go_wp2_with (go_at_call 24; refine (HV.out _ _ HCv1.out).mono ?_; rintro e w2 ⟨rfl, hb2⟩)
      go_ret
      exact ⟨by rw [HR3.out]; rfl, HB.out.trans (hb2.mono HB.out.size)⟩
  · have HB := Lib.hid hb
    have HR2 : Hid (r = -1) := by
      show _ = _
      rw [HR.out]
    clear HR hv hb HC HA HCv
    go_wp2_with fail
    go_ret
    exact ⟨by rw [HR2.out]; rfl, HB.out⟩
theorem right_path (s : ByteArray) (hs : s.size ≤ 9223372036854775807) (w : World) (hm : Mx w) :
    Calls Tryd.prog 21 #[.string s] w fun e w' => e = .returned (.bool (nameB s.data.toList)) ∧ Below w.heap.size w w' := by
  have HN := Lib.hid (name_any s hs w hm)
  obtain ⟨r, hr⟩ : ∃ r, r = nameB s.data.toList := ⟨_, rfl⟩
  rw [← hr] at HN ⊢
  clear hr
  go_enter Tryd.func21, Tryd.ntmps21
  go_wp2_with (go_at_call 32; refine HN.out.mono ?_; rintro e w' ⟨rfl, hb⟩)
  go_ret
  exact ⟨rfl, hb⟩
theorem seven : numN [55, 46, 103, 121, 115] = 7 := by
  have h1 : Lib.hasSuffix [55, 46, 103, 121, 115] gysL = true := by decide
  have h2 : Lib.trimSuffix [55, 46, 103, 121, 115] gysL = [55] := by decide
  have h3 : Lib.atoiAll [55] = .ok 7 := by decide
  have h4 : volS 7 = [55, 46, 103, 121, 115] := by unfold volS; rw [if_pos (by omega)]; show Lib.decDigits 7 ++ gysL = _; rw [dd1 (by omega)]; rfl
  unfold numN
  rw [if_pos h1, h2, h3]
  show (if volS 7 = _ then (7 : Int) else -1) = 7
  rw [if_pos h4]
theorem awake15_any (w : World) (hc : Cv w) : Calls Tryd.prog 20 #[] w fun e w' => e = .returned (.bool true) ∧ Below w.heap.size w w' := by
  have HN : Hid (∀ w, Cv w → Calls Tryd.prog 22 #[.string ⟨#[55, 46, 103, 121, 115]⟩] w fun e w' => e = .returned (.int .i64 7) ∧ Below w.heap.size w w') := fun w hc => by
    have := number_any ⟨#[55, 46, 103, 121, 115]⟩ (by decide) w hc
    rw [show (⟨#[55, 46, 103, 121, 115]⟩ : ByteArray).data.toList = [55, 46, 103, 121, 115] from rfl, seven] at this
    exact this
  have HR : Hid (Calls Tryd.prog 21 #[.string ⟨#[97, 47, 98]⟩] w fun e w' => e = .returned (.bool true) ∧ Below w.heap.size w w') := by
    have := right_path ⟨#[97, 47, 98]⟩ (by decide) w hc.mx
    rw [show nameB (⟨#[97, 47, 98]⟩ : ByteArray).data.toList = true by decide +kernel] at this
    exact this
  have HC := Lib.hid hc
  clear hc
  go_enter Tryd.func20, Tryd.ntmps20
  go_wp2_with first
    | (go_at_call 21; refine HR.out.mono ?_; rintro e w1 ⟨rfl, hb⟩)
    | (go_at_call 22; refine (HN.out _ (HC.out.below hb)).mono ?_; rintro e w2 ⟨rfl, hb2⟩)
  go_ret
  exact ⟨rfl, hb.trans (hb2.mono hb.size)⟩
end Go.Proofs.YthpinjmlnongpaaDoor
