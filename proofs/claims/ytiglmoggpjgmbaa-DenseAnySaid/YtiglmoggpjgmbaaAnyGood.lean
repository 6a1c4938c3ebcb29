/-
  DenseAny where the question is formed well.
-/
import Derived.Test.YtiglmoggpjgmbaaAnyBad
namespace Go.Proofs.Ytiglmoggpjgmbaa
open Go.ChangeShapes Go.WideShapes Go.ChangeAt Go.RowKit Go.Joins
set_option linter.unusedVariables false

/-- What Solve answers, of a value and a number. -/
structure Says (N : Nat) (st : List St) (zs : List Ln) (w' : World) (xa : Option Addr) (xl xc : Nat) (ec : Int) : Prop where
  rank : st.length < N → xl = 0 ∧ ec = 9
  sum : N ≤ st.length → allZ zs = false → xl = 0 ∧ ec = 11
  ok : N ≤ st.length → allZ zs = true → xl = st.length ∧ ec = 0 ∧ Rs w'.heap.size w' xa xc (answers N st)
  cap : xl ≤ 9223372036854775807 ∧ xc ≤ 9223372036854775807
theorem says_of {N : Nat} {st : List St} {zs : List Ln} {w' : World} {e : Ending} (hf : st.length ≤ N) (hN : N ≤ 40) (h : SolveSays N st zs w' e) : ∃ xa xl xc ec, e = .returned (.tuple #[.slice xa xl xc, .int .i64 ec]) ∧ Says N st zs w' xa xl xc ec := by
  cases h with
  | rank h => exact ⟨none, 0, 0, 9, rfl, fun _ => ⟨rfl, rfl⟩, fun h' => by omega, fun h' => by omega, by omega⟩
  | sum h hz => exact ⟨none, 0, 0, 11, rfl, fun h' => by omega, fun _ _ => ⟨rfl, rfl⟩, fun _ h' => by (rw [hz] at h'; cases h'), by omega⟩
  | ok h hz a c hr =>
    have hc := hr.most
    unfold maxLen at hc
    exact ⟨a, st.length, c, 0, rfl, fun h' => by omega, fun _ h' => by (rw [hz] at h'; cases h'), fun _ _ => ⟨rfl, rfl, hr⟩, by omega⟩
theorem eqs_of {rows right : Rws} {N : Nat} (hb : ∀ x ∈ rows, IsByte x) (hb2 : ∀ x ∈ right, IsByte x) (hf : formedB rows right (N : Int) = true) : Eqs rows right N (rightLen right) := by
  obtain ⟨-, h1, h2, h3⟩ := formedB_iff.1 hf
  exact ⟨h2, hb, fun x hx => by have := longN_ge x hx; omega, hb2, h3⟩

set_option maxRecDepth 100000 in
set_option maxHeartbeats 8000000 in
theorem denseAny_good (a ga : Option Addr) (cap gc : Nat) (rows right : Rws) (N : Nat) (w : World) (hs : Rs w.heap.size w a cap rows) (hg : Rs w.heap.size w ga gc right) (hn2 : N ≤ 40) (hf1 : fewB rows = true) (hf2 : fewB right = true) (hf : formedB rows right (N : Int) = true) :
    Calls Try.prog 5 #[.slice a rows.length cap, .slice ga right.length gc, .int .i64 (N : Int)] w (TrueAnd w) := by
  have hlm := hs.lt
  have hlm2 := hg.lt
  have HS : Hid (∀ w', Below w.heap.size w w' → Rs w.heap.size w' a cap rows) := fun w' hb => hs.keep (Nat.le_refl _) (Keep.of_below hb)
  have HG : Hid (∀ w', Below w.heap.size w w' → Rs w.heap.size w' ga gc right) := fun w' hb => hg.keep (Nat.le_refl _) (Keep.of_below hb)
  have HAW := Lib.hid awake_any
  have HF1 : Hid (∀ w', Below w.heap.size w w' → Calls Try.prog 7 #[.slice a rows.length cap] w' fun e w'' => e = .returned (.bool (fewB rows)) ∧ w' = w'') := fun w' hb => few_any w.heap.size a cap rows w' (HS.out w' hb)
  have HF2 : Hid (∀ w', Below w.heap.size w w' → Calls Try.prog 7 #[.slice ga right.length gc] w' fun e w'' => e = .returned (.bool (fewB right)) ∧ w' = w'') := fun w' hb => few_any w.heap.size ga gc right w' (HG.out w' hb)
  obtain ⟨hl40, hm40⟩ := fewB_iff.1 hf1
  obtain ⟨hr40, hq40⟩ := fewB_iff.1 hf2
  have hM40 : rightLen right ≤ 40 := by
    unfold rightLen
    by_cases h0 : 0 < right.length
    · rw [getR h0]; exact hq40 _ (List.getElem_mem h0)
    · have h9 : right = [] := List.eq_nil_of_length_eq_zero (by omega)
      rw [h9]; simp
  have HEQ := Lib.hid (eqs_of hs.byte hg.byte hf)
  have HSO : Hid (∀ w', Below w.heap.size w w' → Calls Try.prog 14 #[.slice a rows.length cap, .slice ga right.length gc, .int .i64 (N : Int)] w' (SolvePost N rows right w')) := fun w' hb =>
    solve_any w.heap.size a ga cap gc rows right N w' hb.size (HS.out w' hb) (HG.out w' hb) (by omega) (by omega) (by omega) hf
  have HRK : Hid (∀ w', Below w.heap.size w w' → Calls Try.prog 15 #[.slice a rows.length cap] w' fun e w'' => e = .returned (.int .i64 ((rankN rows : Nat) : Int)) ∧ Below w'.heap.size w' w'') := fun w' hb =>
    refRank_any w.heap.size a cap rows w' hb.size (HS.out w' hb) (by omega) (fun x hx => by have := hm40 x hx; omega)
  have h3 : right.length = rows.length := HEQ.out.he
  have H3 := Lib.hid h3
  have hq : (((rows.length : Nat) : Int) != ((right.length : Nat) : Int)) = false := by simp; omega
  have hd : decide ((N : Int) < 0) = false := by simp
  rw [hf1] at HF1
  rw [hf2] at HF2
  have HM40 := Lib.hid hM40
  have HQ40 := Lib.hid hq40
  have hn40 : ¬ (40 : Int) < (N : Int) := by omega
  have hd40 : decide ((40 : Int) < (N : Int)) = false := by simp; omega
  clear hs hg hf1 hf2 hf hm40 hq40 h3 hM40
  go_enter Try.func5, Try.ntmps5
  go_wp2_with fail
  (with_reducible refine (HAW.out _).mono ?_)
  rintro e w1 ⟨rfl, b1⟩
  have HB1 := Lib.hid b1
  clear b1
  go_wp2_with fail
  (with_reducible refine (HF1.out _ HB1.out).mono ?_)
  rintro e w2 ⟨rfl, rfl⟩
  go_wp2_with fail
  (with_reducible refine (HF2.out _ HB1.out).mono ?_)
  rintro e w2 ⟨rfl, rfl⟩
  go_wp2_with fail
  (with_reducible refine (HSO.out _ HB1.out).mono ?_)
  rintro e w2 ⟨D, st, zs, hp, hi, hsay, hb2⟩
  have hfew : st.length ≤ N := hi.few
  have HFEW := Lib.hid hfew
  obtain ⟨xa, xl, xc, ec, rfl, hsays⟩ := says_of hfew hn2 hsay
  have HSAY := Lib.hid hsays
  have HI := Lib.hid (And.intro hp hi)
  have HB2 : Hid (Below w.heap.size w w2) := HB1.out.trans (hb2.mono HB1.out.size)
  have hxl := hsays.cap.1
  have hxc := hsays.cap.2
  have HRN : Hid (rankN rows = st.length) := rank_of hp (zip_same hp HEQ.out.he) hi HEQ.out.hb
  clear HF1 HF2 HAW HSO hsay hb2 hp hi HB1 hsays hfew
  go_wp2_with fail
  go_loopg [9, 49] rows.length (fun gg v9 i wr => ∃ k : Nat, k ≤ rows.length ∧ rows.length - k ≤ gg ∧ i = .int .i64 k ∧ v9 = .bool false ∧ Hid (Below w2.heap.size w2 wr))
  case atStart => exact ⟨0, by omega, by omega, rfl, rfl, Below.refl _ _⟩
  case round =>
    obtain ⟨k, hk, hgg, rfl, rfl, HB⟩ := hrel
    by_cases hlt : k < rows.length
    · have hltz : (k : Int) < (rows.length : Int) := by omega
      have hltr : k < right.length := by rw [H3.out]; exact hlt
      have hpos : 0 < right.length := by omega
      have hltrz : (k : Int) < (right.length : Int) := by omega
      have hposz : (0 : Int) < (right.length : Int) := by omega
      have hk0 : (0 : Int) ≤ (k : Int) := by omega
      have HBW : Hid (Below w.heap.size w wr) := HB2.out.trans (HB.out.mono HB2.out.size)
      obtain ⟨bb, off, rfl, hB, hr⟩ := (HS.out _ HBW.out).some hlt
      obtain ⟨ai, ci, hck, hrw⟩ := hr k hlt
      obtain ⟨bg, og, rfl, hBg, hrg⟩ := (HG.out _ HBW.out).some hltr
      obtain ⟨a1, c1, hc1, hrw1⟩ := hrg k hltr
      obtain ⟨a0, c0, hc0, hrw0⟩ := hrg 0 hpos
      rw [Nat.add_zero] at hc0
      have hs1 := hrw.sl.lt
      have hs2 := hrw1.sl.lt
      have hs3 := hrw0.sl.lt
      have hxN : rows[k].length ≤ N := HEQ.out.hn _ (List.getElem_mem hlt)
      have hyz : right[k].length = right[0].length := (HEQ.out.hm _ (List.getElem_mem hltr)).trans (HEQ.out.hm _ (List.getElem_mem hpos)).symm
      generalize rows[k] = x at *
      generalize right[k] = y at *
      generalize right[0] = z at *
      have hdb : decide (N < x.length) = false := by simp; omega
      have hqq : (((y.length : Nat) : Int) != ((z.length : Nat) : Int)) = false := by simp; omega
      clear hr hrw hrg hrw1 hrw0 hyz HBW
      go_wp2_with fail
      go_quiet (fail)
      go_wp2_with fail
      go_roundg (rows.length - (k + 1))
      case measure => omega
      case rel => exact ⟨k + 1, by omega, Nat.le_refl _, by first | rfl | go_num | (congr 1; omega), rfl, below_drewN HB.out _⟩
    · obtain rfl : k = rows.length := by omega
      have hltz : ¬ (rows.length : Int) < (rows.length : Int) := by omega
      have HB3 : Hid (Below w.heap.size w wr) := HB2.out.trans (HB.out.mono HB2.out.size)
      have hrk := HRK.out wr HB3.out
      rw [HRN.out] at hrk
      clear HRK
      by_cases hrank : st.length < N
      · have hz : (st.length : Int) < (N : Int) := by omega
        obtain ⟨rfl, rfl⟩ := HSAY.out.rank hrank
        clear HSAY HRN
        go_wp2_with fail
        (with_reducible refine hrk.mono ?_)
        rintro e w9 ⟨rfl, b9⟩
        have HB9 : Hid (Below w.heap.size w w9) := HB3.out.trans (b9.mono HB3.out.size)
        clear hrk b9
        go_wp2_with fail
        go_ret
        exact ⟨rfl, HB9.out⟩
      · have hst : st.length = N := by have := HFEW.out; omega
        rw [hst] at hrk
        have HST := Lib.hid hst
        have hz : ¬ (N : Int) < (N : Int) := by omega
        clear hrank hst
        go_wp2_with fail
        (with_reducible refine hrk.mono ?_)
        rintro e w9 ⟨rfl, b9⟩
        have HB9 : Hid (Below w.heap.size w w9) := HB3.out.trans (b9.mono HB3.out.size)
        have HB29 : Hid (Below w2.heap.size w2 w9) := HB.out.trans (b9.mono HB.out.size)
        have h9z : w.heap.size ≤ w9.heap.size := HB9.out.size
        clear hrk b9 HB3 HB
        go_wp2_with fail
        go_loopg [11, 96] rows.length (fun gg v11 i wr => ∃ (k : Nat) (vv : Value), k ≤ rows.length ∧ rows.length - k ≤ gg ∧ i = .int .i64 k ∧ v11 = vv ∧ Hid (Own w9.heap.size wr vv (allR rows right N k)) ∧ Hid (Keep w9.heap.size w9 wr))
        case atStart => exact ⟨0, _, by omega, by omega, rfl, rfl, Own.nil _ _, Keep.refl _ _⟩
        case round =>
          obtain ⟨k, vv, hk, hgg, rfl, rfl, HO, HK⟩ := hrel
          have HBW : Hid (Below w.heap.size w wr) := HB9.out.trans ((HK.out.below (Nat.le_refl _)).mono h9z)
          by_cases hlt : k < rows.length
          · have hltz : (k : Int) < (rows.length : Int) := by omega
            have hltr : k < right.length := by rw [H3.out]; exact hlt
            have hltrz : (k : Int) < (right.length : Int) := by omega
            have hk0 : (0 : Int) ≤ (k : Int) := by omega
            obtain ⟨bb, off, rfl, hB, hr⟩ := (HS.out _ HBW.out).some hlt
            obtain ⟨ai, ci, hck, hrw⟩ := hr k hlt
            obtain ⟨bg, og, rfl, hBg, hrg⟩ := (HG.out _ HBW.out).some hltr
            obtain ⟨a1, c1, hc1, hrw1⟩ := hrg k hltr
            have HX : Hid (Sl wr ai ci rows[k]) := hrw.sl
            have HY : Hid (Sl wr a1 c1 right[k]) := hrw1.sl
            have HSN : Hid (allR rows right N (k + 1) = allR rows right N k ++ [fillN rows[k] N ++ right[k]]) := by
              show _ = _
              rw [allR_snoc, getR hlt, getR hltr]
            have hy40 : right[k].length ≤ 40 := HQ40.out _ (List.getElem_mem hltr)
            have hlv : (allR rows right N k).length ≤ 100000 := by rw [allR_len]; omega
            generalize rows[k] = x at *
            generalize right[k] = y at *
            have c1' := cell_up hck
            have c2' := cell_up hc1
            have hwz : w9.heap.size ≤ wr.heap.size := HK.out.size
            clear hr hrw hrg hrw1 hck hc1
            go_wp2_with fail
            refine growT_begin 13 (by kernel_rfl) ?_
            refine growU_take (by kernel_rfl) [0, 1, 2, 3, 4, 5, 7, 8, 9, 10] 5 _ _ (by kernel_rfl) ?_
            simp only [opsAt, List.getElem?_toArray, List.getElem?_cons_succ, List.getElem?_cons_zero]
            repeat (first | go_big_quiet_step (fail) | quiet_step (fail))
            refine wpQuiet_nil ?_
            intro w3 hw3
            have hb3 := below_of_up hw3
            clear c1' c2'
            refine growT_one 6 (by kernel_rfl) hw3 (fun K hK => ?_)
            simp only [stepOf, List.getElem?_toArray, List.getElem?_cons_succ, List.getElem?_cons_zero]
            go_simp
            go_at_call 12
            refine (fill_at 0 ai ci x N w3 (by omega) (HX.out.below hb3) hb3).mono ?_
            rintro e w4 ⟨rfl, HN4, hb34, hb4⟩
            refine hK.out _ _ hb34 ?_
            clear hK K
            generalize w3.heap.size = g3 at *
            intro w5 hw5
            have hb5 := below_of_up hw5
            have hb05 : Below wr.heap.size wr w5 := hb4.trans (hb5.mono hb4.size)
            refine growT_one 11 (by kernel_rfl) hw5 (fun K hK => ?_)
            simp only [stepOf, List.getElem?_toArray, List.getElem?_cons_succ, List.getElem?_cons_zero]
            rw [if_pos (by rfl)]
            refine wp_app 0 g3 N (fillN x N) a1 c1 y w5 _ _ rfl rfl rfl (HN4.out.below hb5) (fillN_len _ _) (HY.out.below hb05) (by omega) (by omega) ?_
            intro g6 cap6 w6 HN6 hb56
            refine hK.out _ _ hb56 ?_
            have HL6 : Hid ((fillN x N ++ y).length = N + y.length) := by show _ = _; rw [List.length_append, fillN_len]
            have hb06 : Below wr.heap.size wr w6 := hb05.trans (hb56.mono hb05.size)
            generalize fillN x N ++ y = z at *
            generalize hq9 : N + y.length = q at *
            clear hK K hb56 hb5 hw5 hb4 hb34 HN4 HX HY hb3 hw3 hb05
            intro w7 hw7
            have hb7 := below_of_up hw7
            have hb07 : Below wr.heap.size wr w7 := hb06.trans (hb7.mono hb06.size)
            have HN7 := Lib.hid (HN6.out.below hb7)
            refine growT_one 12 (by kernel_rfl) hw7 (fun K hK => ?_)
            simp only [stepOf, List.getElem?_toArray, List.getElem?_cons_succ, List.getElem?_cons_zero]
            go_simp
            refine hK.out _ _ ((Below.refl _ _).alloc (Nat.le_refl _) _) ?_
            clear hK K
            intro w8 hw8
            have hb8 := below_of_up hw8
            have hb78 : Below w7.heap.size w7 w8 := ((Below.refl _ _).alloc (Nat.le_refl _) _).trans (hb8.mono (by simp))
            have hb08 : Below wr.heap.size wr w8 := hb07.trans (hb78.mono hb07.size)
            have HC8 : Hid (w8.cell? ⟨w7.heap.size, 0, none⟩ = some (.slice (some ⟨g6, 0, none⟩) q cap6)) := by
              show _ = _
              rw [hb8.cell (p := ⟨w7.heap.size, 0, none⟩) (by simp)]
              simp
            have HN8 := Lib.hid ((HN7.out.below hb78).any w9.heap.size)
            have HO8 := Lib.hid (HO.out.keep hb08)
            have HK8 : Hid (Keep w9.heap.size w9 w8) := HK.out.trans (Keep.of_below hb08)
            have hw8z : w9.heap.size ≤ w8.heap.size := HK8.out.size
            generalize w7.heap.size = g7 at *
            clear hb78 hb08 hb07 hb06 hb7 hw7 HN7 HN6 HO HK hw8 hb8
            refine growU_last (i := 14) (by kernel_rfl) (by kernel_rfl) (by decide) (by kernel_rfl) (fun K hK => ?_)
            simp only [stepOf, List.getElem?_toArray, List.getElem?_cons_succ, List.getElem?_cons_zero]
            rw [if_pos (by rfl)]
            refine wp_push w8 _ _ rfl w9.heap.size _ _ rfl HO8.out g7 rfl (some ⟨g6, 0, none⟩) cap6 z (by rw [HL6.out]; exact HC8.out) HN8.out hw8z hlv ?_
            intro v9 w10 HO10 HK10
            refine hK.out _ _ ?_
            have HO11 : Hid (Own w9.heap.size w10 v9 (allR rows right N (k + 1))) := by rw [HSN.out]; exact HO10.out
            have HK11 : Hid (Keep w9.heap.size w9 w10) := HK8.out.trans HK10.out
            clear hK K HO10 HK10 HO8 HK8 HC8 HN8 HL6
            simp only [stepOf, List.getElem?_toArray, List.getElem?_cons_succ, List.getElem?_cons_zero]
            rw [if_pos (by rfl)]
            go_simp
            go_wp2_with fail
            go_roundg (rows.length - (k + 1))
            case measure => omega
            case rel => exact ⟨k + 1, v9, by omega, Nat.le_refl _, by first | rfl | go_num | (congr 1; omega), rfl, HO11, HK11⟩
          · obtain rfl : k = rows.length := by omega
            have hltz : ¬ (rows.length : Int) < (rows.length : Int) := by omega
            obtain ⟨av, cv, ev, hrv⟩ := HO.out.rs
            rw [allR_len] at ev
            subst ev
            have hcv : cv ≤ 9223372036854775807 := by have := hrv.most; unfold maxLen at this; omega
            have hal : ∀ x ∈ allR rows right N rows.length, x.length ≤ 1000 := fun x hx => by
              rw [HEQ.out.len x hx]
              have := HM40.out
              omega
            have hra := refRank_any wr.heap.size av cv (allR rows right N rows.length) wr (Nat.le_refl _) hrv (by rw [allR_len]; omega) hal
            rw [allR_len] at hra
            have HKB : Hid (Below w9.heap.size w9 wr) := HK.out.below (Nat.le_refl _)
            have HB4 : Hid (Below w2.heap.size w2 wr) := HB29.out.trans (HKB.out.mono HB29.out.size)
            have HNST : Hid (N ≤ st.length) := Nat.le_of_eq HST.out.symm
            clear hal hrv HO HK HKB HB29 HB9
            cases hzz : allZ zs with
            | false =>
              have hlt9 : N < rankN (allR rows right N rows.length) := HEQ.out.unsound HI.out.1 HI.out.2 HNST.out hzz
              obtain ⟨rfl, rfl⟩ := HSAY.out.sum HNST.out hzz
              generalize rankN (allR rows right N rows.length) = r at *
              have hltr9 : (N : Int) < (r : Int) := by omega
              clear HSAY hlt9 hzz
              go_wp2_with fail
              (with_reducible refine hra.mono ?_)
              rintro e w11 ⟨rfl, b11⟩
              have HB11 : Hid (Below w.heap.size w w11) := HB2.out.trans ((HB4.out.trans (b11.mono HB4.out.size)).mono HB2.out.size)
              clear hra b11
              go_wp2_with fail
              go_ret
              exact ⟨rfl, HB11.out⟩
            | true =>
              have HZZ := Lib.hid hzz
              rw [HEQ.out.sound HI.out.1 HI.out.2 hzz, HST.out] at hra
              obtain ⟨hx2, rfl, hrx⟩ := HSAY.out.ok HNST.out hzz
              rw [HST.out] at hx2
              subst hx2
              have HRX := Lib.hid hrx
              clear HSAY hzz hrx
              go_wp2_with fail
              (with_reducible refine hra.mono ?_)
              rintro e w11 ⟨rfl, b11⟩
              have HB11 : Hid (Below w2.heap.size w2 w11) := HB4.out.trans (b11.mono HB4.out.size)
              have HAL : Hid ((answers xl st).length = xl) := by show _ = _; simp [answers]; exact HST.out
              clear hra b11 HB4 HBW
              go_wp2_with fail
              go_loopg [135] rows.length (fun gg i wr => ∃ k : Nat, k ≤ rows.length ∧ rows.length - k ≤ gg ∧ i = .int .i64 k ∧ Hid (Below w11.heap.size w11 wr))
              case atStart => exact ⟨0, by omega, by omega, rfl, Below.refl _ _⟩
              case round =>
                obtain ⟨k, hk, hgg, rfl, HB⟩ := hrel
                have HBV : Hid (Below w2.heap.size w2 wr) := HB11.out.trans (HB.out.mono HB11.out.size)
                have HBW : Hid (Below w.heap.size w wr) := HB2.out.trans (HBV.out.mono HB2.out.size)
                by_cases hlt : k < rows.length
                · have hltz : (k : Int) < (rows.length : Int) := by omega
                  have hltr : k < right.length := by rw [H3.out]; exact hlt
                  have hltrz : (k : Int) < (right.length : Int) := by omega
                  have hk0 : (0 : Int) ≤ (k : Int) := by omega
                  obtain ⟨bb, off, rfl, hB, hr⟩ := (HS.out _ HBW.out).some hlt
                  obtain ⟨ai, ci, hck, hrw⟩ := hr k hlt
                  obtain ⟨bg, og, rfl, hBg, hrg⟩ := (HG.out _ HBW.out).some hltr
                  obtain ⟨a1, c1, hc1, hrw1⟩ := hrg k hltr
                  have HX : Hid (Sl wr ai ci rows[k]) := hrw.sl
                  have HY : Hid (Sl wr a1 c1 right[k]) := hrw1.sl
                  have HFT : Hid (symTo (answers xl st) right[k].length (fillN rows[k] xl) (answers xl st).length = right[k]) := by
                    show _ = _
                    have := HEQ.out.fit HI.out.1 HI.out.2 HNST.out HZZ.out hlt
                    rw [getR hlt, getR hltr] at this
                    rw [show right[k].length = rightLen right from HEQ.out.hm _ (List.getElem_mem hltr)]
                    exact this
                  have hy40 : right[k].length ≤ 40 := HQ40.out _ (List.getElem_mem hltr)
                  generalize rows[k] = x at *
                  generalize right[k] = y at *
                  have c1' := cell_up hck
                  have c2' := cell_up hc1
                  have sv := conv_class HY.out rfl
                  clear hr hrw hrg hrw1 hck hc1
                  go_wp2_with fail
                  refine grow_begin (by kernel_rfl) ?_
                  refine grow_take (by kernel_rfl) [0, 1, 2, 3, 4, 5, 6, 7, 8, 9, 10, 14, 15, 16, 17, 18] 4 _ _ (by kernel_rfl) ?_
                  simp only [opsAt, List.getElem?_toArray, List.getElem?_cons_succ, List.getElem?_cons_zero]
                  repeat (first | go_big_quiet_step (fail) | quiet_step (fail))
                  refine wpQuiet_nil ?_
                  intro w3 hw3
                  have hb3 := below_of_up hw3
                  clear c1' c2' sv
                  refine grow_one 11 (by kernel_rfl) hw3 (fun K hK => ?_)
                  simp only [stepOf, List.getElem?_toArray, List.getElem?_cons_succ, List.getElem?_cons_zero]
                  go_simp
                  go_at_call 12
                  refine (fill_at 0 ai ci x xl w3 (by omega) (HX.out.below hb3) hb3).mono ?_
                  rintro e w4 ⟨rfl, HN4, hb34, hb4⟩
                  refine hK.out _ _ hb34 ?_
                  clear hK K
                  generalize w3.heap.size = g3 at *
                  intro w5 hw5
                  have hb5 := below_of_up hw5
                  have hb05 : Below wr.heap.size wr w5 := hb4.trans (hb5.mono hb4.size)
                  have HBV5 : Hid (Below w2.heap.size w2 w5) := HBV.out.trans (hb05.mono HBV.out.size)
                  refine grow_one 12 (by kernel_rfl) hw5 (fun K hK => ?_)
                  simp only [stepOf, List.getElem?_toArray, List.getElem?_cons_succ, List.getElem?_cons_zero]
                  go_simp
                  go_at_call 13
                  have hfl2 : (fillN x xl).length = xl := fillN_len _ _
                  have hsy := symbol0_any w2.heap.size xa xc (answers xl st) y.length (some ⟨g3, 0, none⟩) xl (fillN x xl) w5 HBV5.out.size (HRX.out.keep (Nat.le_refl _) (Keep.of_below HBV5.out)) (by rw [hfl2, HAL.out]; exact Nat.le_refl _) (HN4.out.below hb5).sl (by omega)
                  rw [hfl2, HAL.out] at hsy
                  refine hsy.mono ?_
                  rintro e w6 ⟨g6, rfl, HN6, hb56⟩
                  refine hK.out _ _ hb56 ?_
                  have hft := HFT.out
                  rw [hft] at HN6
                  have sx := conv_class HN6.sl rfl
                  have HB6 : Hid (Below w11.heap.size w11 w6) := HB.out.trans ((hb05.trans (hb56.mono hb05.size)).mono HB.out.size)
                  clear hK K hsy hft HN6 hb56 HBV5 hb05 hb5 hw5 hb4 hb34 HN4 hb3 hw3 hfl2 HFT HX
                  refine grow_take (by kernel_rfl) [13, 19] 0 _ _ (by kernel_rfl) ?_
                  simp only [opsAt, List.getElem?_toArray, List.getElem?_cons_succ, List.getElem?_cons_zero]
                  repeat (first | go_big_quiet_step (fail) | quiet_step (fail))
                  refine wpQuiet_nil ?_
                  intro w7 hw7
                  have hb7 := below_of_up hw7
                  refine grow_done (by kernel_rfl) ?_
                  have HB7 : Hid (Below w11.heap.size w11 w7) := HB6.out.trans (hb7.mono HB6.out.size)
                  clear sx hb7 hw7 HB6 HY
                  go_wp2_with fail
                  go_roundg (rows.length - (k + 1))
                  case measure => omega
                  case rel => exact ⟨k + 1, by omega, Nat.le_refl _, by first | rfl | go_num | (congr 1; omega), HB7⟩
                · obtain rfl : k = rows.length := by omega
                  have hltz : ¬ (rows.length : Int) < (rows.length : Int) := by omega
                  go_wp2_with fail
                  go_ret
                  exact ⟨rfl, HBW.out⟩
end Go.Proofs.Ytiglmoggpjgmbaa
