/-
  The law ReplayBoards, out of what package replay answers: a slot that isn't there.
-/
import Derived.Test.YtahkjimbmapofaaRpE
namespace Go.Proofs.Ytahkjimbmapofaa
open Go.ChangeShapes Go.WideShapes Go.ChangeAt Go.RowKit Go.Joins
set_option linter.unusedVariables false

set_option maxRecDepth 1000000 in
set_option maxHeartbeats 8000000 in
theorem boards_badScale {Bd : Nat → World → Nat → Rws → Prop} (HC : RepC Bd) (a : Option Addr) (cap : Nat) (rows : Rws) (t f : Int) (ht : -9223372036854775808 ≤ t ∧ t ≤ 9223372036854775807) (hf : -9223372036854775808 ≤ f ∧ f ≤ 9223372036854775807) (c : Nat) (hc : c < 256) (w : World) (hs : Rs w.heap.size w a cap rows) (hF : fewC rows = true) (hA : alikeB rows = true) (hbad : ¬ inS rows.length t) :
    Calls Try.prog 4 #[.slice a rows.length cap, .int .i64 t, .int .i64 f, .int .u8 (c : Int), .bool true] w (TrueAnd w) := by
  have h40 := (fewC_iff.1 hF).1
  have h100 := (fewC_iff.1 hF).2
  have HA : Hid (Calls Try.prog 5 #[] w fun e w' => e = .returned (.bool true) ∧ Below w.heap.size w w') := awake12_any HC w
  have HS := Lib.hid hs
  have HFW : Hid (∀ w', Below w.heap.size w w' → Calls Try.prog 6 #[.slice a rows.length cap] w' fun e w'' => e = .returned (.bool true) ∧ w' = w'') := fun w' k => by
    have h := few12_any _ a cap rows w' (HS.out.later k)
    rw [hF] at h; exact h
  have HAL : Hid (∀ w', Below w.heap.size w w' → Calls Try.prog 8 #[.slice a rows.length cap] w' fun e w'' => e = .returned (.bool true) ∧ Below w'.heap.size w' w'') := fun w' k => by
    have h := alike_any _ a cap rows w' (Nat.le_refl _) (HS.out.later k)
    rw [hA] at h; exact h
  have HNB : Hid (∀ w', Below w.heap.size w w' → Calls Try.prog 10 #[.slice a rows.length cap] w' fun e w'' => ∃ b, e = .returned (.tuple #[.pointer (some ⟨b, 0, none⟩), .int .i64 0]) ∧ Bd w'.heap.size w'' b rows ∧ Below w'.heap.size w' w'') := fun w' k => HC.new a cap rows w' (HS.out.later k) hF hA
  have HOP : Hid (∀ B w b, Bd B w b rows → Calls Try.prog 11 #[.pointer (some ⟨b, 0, none⟩), .int .i64 t, .int .u8 (c : Int)] w fun e w' => e = .returned (.int .i64 1) ∧ Bd B w' b rows ∧ Below B w w') := fun B w b hb => HC.scaleBad B w b rows t c hb hF ht hc hbad
  have HSL := Lib.hid (HC.slots hF)
  have HN1 : Hid (∀ w, Calls Try.prog 12 #[.pointer none, .int .i64 t, .int .i64 f, .int .u8 (c : Int)] w fun e w' => e = .returned (.int .i64 1) ∧ Below w.heap.size w w') := fun w => HC.nilAdd w _ f c ht hf hc
  have HN2 : Hid (∀ w, Calls Try.prog 11 #[.pointer none, .int .i64 t, .int .u8 (c : Int)] w fun e w' => e = .returned (.int .i64 1) ∧ Below w.heap.size w w') := fun w => HC.nilScale w _ c ht hc
  have HN3 : Hid (∀ w, Calls Try.prog 13 #[.pointer none, .int .i64 t] w fun e w' => ∃ sa sc, e = .returned (.slice sa 0 sc) ∧ Below w.heap.size w w') := fun w => HC.nilSlot w _ ht
  have H100 := Lib.hid h100
  clear HC hs hF hA h100
  by_cases h0 : t < 0
  · clear hbad
    have g_t : ¬ (0 : Int) ≤ t := by omega
    have d_t : decide ((0 : Int) ≤ t) = false := decide_eq_false g_t
    go_enter Try.func4, Try.ntmps4
    go_wp2_with fail
    (with_reducible refine HA.out.mono ?_)
    rintro e w1 ⟨rfl, b1⟩
    have HB1 := Lib.hid b1
    have HF1 := Lib.hid (HFW.out w1 b1)
    have HNW := Lib.hid (HNB.out w1 b1)
    clear b1 HFW HA HNB
    go_wp2_with fail
    (with_reducible refine HF1.out.mono ?_)
    rintro e w2 ⟨rfl, rfl⟩
    clear HF1
    go_wp2_with fail
    (with_reducible refine HNW.out.mono ?_)
    rintro e w3 ⟨b, rfl, hbd, b3⟩
    have HB3 := Lib.hid (HB1.out.trans (b3.mono HB1.out.size))
    have HA3 := Lib.hid (HAL.out w3 HB3.out)
    have hsz1 := HB1.out.size
    obtain ⟨B, hB⟩ : ∃ B, B = w1.heap.size := ⟨_, rfl⟩
    have hBw : w.heap.size ≤ B := by omega
    rw [← hB] at hbd
    have HBD3 := Lib.hid hbd
    clear b3 HNW HAL hB hbd hsz1
    go_wp2_with fail
    (with_reducible refine HA3.out.mono ?_)
    rintro e w4 ⟨rfl, b4⟩
    have hbd4 := HSL.out.keep HBD3.out b4
    have HO4 := Lib.hid (HOP.out _ w4 b hbd4)
    have HB4 := Lib.hid (HB3.out.trans (b4.mono HB3.out.size))
    clear b4 hbd4 HBD3 HOP HA3
    go_wp2_with fail
    (with_reducible refine HO4.out.mono ?_)
    rintro e w5 ⟨rfl, hbd5, b5⟩
    have HB5 := Lib.hid (HB4.out.trans (b5.mono hBw))
    have HOV := Lib.hid (HSL.out.over B w5 b hbd5)
    have HD5 := Lib.hid hbd5
    clear b5 hbd5 HO4
    go_wp2_with fail
    (with_reducible refine HOV.out.mono ?_)
    rintro e w6 ⟨s1, k1, rfl, b6⟩
    have HD6 := Lib.hid (HSL.out.keep HD5.out b6)
    have HUN := Lib.hid (HSL.out.under B w6 b HD6.out)
    have HB6 := Lib.hid (HB5.out.trans (b6.mono HB5.out.size))
    clear b6 HOV HD5
    go_wp2_with fail
    (with_reducible refine HUN.out.mono ?_)
    rintro e w7 ⟨s2, k2, rfl, b7⟩
    have HD7 := Lib.hid (HSL.out.keep HD6.out b7)
    have HB7 := Lib.hid (HB6.out.trans (b7.mono HB6.out.size))
    clear b7 HUN HD6
    go_wp2_with fail
    go_loopw [106] (fun i wr => ∃ k : Nat, k ≤ rows.length ∧ i = .int .i64 k ∧ Hid (Bd B wr b rows) ∧ Hid (Below w.heap.size w wr)) (fun i _ => rows.length - (intOf i).toNat)
    case atStart => exact ⟨0, by omega, rfl, HD7, HB7⟩
    case round =>
      obtain ⟨k, hk, rfl, HD, HB⟩ := hrel
      clear HD7 HB7
      by_cases hlt : k < rows.length
      · obtain ⟨rb, ro, rfl, hrb, ai, ci, hcell, hsl⟩ := rs_row (HS.out.later HB.out) hlt
        have hkz : (k : Int) < (rows.length : Int) := by omega
        have hl100 := H100.out _ (List.getElem_mem hlt)
        have hx : rows[k] = rows[k] := rfl
        have hkR := hlt
        obtain ⟨l, hl⟩ : ∃ l, l = rows[k] := ⟨_, rfl⟩
        have hx : rows[k] = l := hl.symm
        rw [← hl] at hcell hsl hl100
        clear hl
        obtain ⟨aw, haw⟩ : ∃ aw, aw = ai := ⟨_, rfl⟩
        obtain ⟨cw, hcw⟩ : ∃ cw, cw = ci := ⟨_, rfl⟩
        rw [← haw, ← hcw] at hcell hsl
        clear haw hcw
        have HSX : Hid (Sl wr aw cw l) := hsl
        have HD2 := HD
        have HB2 := HB
        clear hsl HD HB
        obtain ⟨wd, hwd⟩ : ∃ wd, wd = wr.drew := ⟨_, rfl⟩
        have HDd : Hid (Bd B wd b rows) := by rw [hwd]; exact HSL.out.keep HD2.out (Below.refl _ _).drew
        have HBd : Hid (Below w.heap.size w wd) := by rw [hwd]; exact HB2.out.drew
        have cvx : ∀ u : Up wd, (convert 34 9 (.slice aw l.length cw)).run Try.prog u.v = .ok (.string (strOf l)) u.v := fun u => conv_n (by
          have h : Sl wd aw cw l := by rw [hwd]; exact HSX.out.drew
          exact h.below (up_below u)) rfl
        have HCL := Lib.hid (HSL.out.slot B wd b k hkR l HDd.out hx)
        clear HD2 HB2 HSX
        go_wp2_with fail
        refine growK_begin 6 (fun w' => ∃ u : Up wd, w' = u.v) (by kernel_rfl) ?_
        rw [← hwd]
        clear hwd
        refine growK_take (by kernel_rfl) [0, 1, 4, 5] 3 _ _ (by kernel_rfl) _ (up_class (Fr.refl _ _)) ?_
        simp only [opsAt, List.getElem?_toArray, List.getElem?_cons_succ, List.getElem?_cons_zero]
        repeat (first | go_big_quiet_step (fail) | quiet_step (fail))
        refine wpQuiet_nil ?_
        clear cvx
        refine growK_one 2 (by kernel_rfl) (fun K hK => ?_)
        simp only [stepOf, List.getElem?_toArray, List.getElem?_cons_succ, List.getElem?_cons_zero]
        go_simp
        go_at_call 13
        (with_reducible refine HCL.out.mono ?_)
        rintro e w9 ⟨a9, c9, rfl, hs9, b9⟩
        have HD9 := Lib.hid (HSL.out.keep HDd.out b9)
        have HB9 := Lib.hid (HBd.out.trans (b9.mono HBd.out.size))
        have cv9 := conv_n hs9 rfl
        have fr9 : Fr (fun _ => False) wd w9 := Fr.of_below b9
        refine hK.out _ _ (up_class fr9) ?_
        clear hK K HCL hs9 b9 HDd HBd
        refine growK_one 3 (by kernel_rfl) (fun K hK => ?_)
        simp only [stepOf, List.getElem?_toArray, List.getElem?_cons_succ, List.getElem?_cons_zero]
        go_simp
        refine hK.out _ _ (up_class fr9) ?_
        clear hK K cv9
        refine growK_last (by kernel_rfl) (by kernel_rfl) (fun K hK => ?_)
        simp only [stepOf, List.getElem?_toArray, List.getElem?_cons_succ, List.getElem?_cons_zero]
        go_simp
        refine hK.out _ _ ?_
        clear hK K fr9
        go_wp2_with fail
        go_roundw
        case rel => exact ⟨k + 1, by omega, by go_num, HD9, HB9⟩
        case measure => simp [intOf]; omega
      · obtain rfl : k = rows.length := by omega
        go_wp2_with fail
        (with_reducible refine (HN1.out wr).mono ?_)
        rintro e x1 ⟨rfl, y1⟩
        have HX1 := Lib.hid (HB.out.trans (y1.mono HB.out.size))
        clear y1
        go_wp2_with fail
        (with_reducible refine (HN2.out x1).mono ?_)
        rintro e x2 ⟨rfl, y2⟩
        have HX2 := Lib.hid (HX1.out.trans (y2.mono HX1.out.size))
        clear y2
        go_wp2_with fail
        (with_reducible refine (HN3.out x2).mono ?_)
        rintro e x3 ⟨s3, k3, rfl, y3⟩
        have HX3 := Lib.hid (HX2.out.trans (y3.mono HX2.out.size))
        clear y3
        go_wp2_with fail
        go_ret
        exact ⟨rfl, HX3.out⟩
  · have h1 : ¬ t < (rows.length : Int) := fun h => hbad ⟨by omega, h⟩
    clear hbad
    have g_t : (0 : Int) ≤ t := by omega
    have d_t : decide ((0 : Int) ≤ t) = true := decide_eq_true g_t
    have k_t : ¬ t < (rows.length : Int) := by omega
    have e_t : decide (t < (rows.length : Int)) = false := decide_eq_false k_t
    go_enter Try.func4, Try.ntmps4
    go_wp2_with fail
    (with_reducible refine HA.out.mono ?_)
    rintro e w1 ⟨rfl, b1⟩
    have HB1 := Lib.hid b1
    have HF1 := Lib.hid (HFW.out w1 b1)
    have HNW := Lib.hid (HNB.out w1 b1)
    clear b1 HFW HA HNB
    go_wp2_with fail
    (with_reducible refine HF1.out.mono ?_)
    rintro e w2 ⟨rfl, rfl⟩
    clear HF1
    go_wp2_with fail
    (with_reducible refine HNW.out.mono ?_)
    rintro e w3 ⟨b, rfl, hbd, b3⟩
    have HB3 := Lib.hid (HB1.out.trans (b3.mono HB1.out.size))
    have HA3 := Lib.hid (HAL.out w3 HB3.out)
    have hsz1 := HB1.out.size
    obtain ⟨B, hB⟩ : ∃ B, B = w1.heap.size := ⟨_, rfl⟩
    have hBw : w.heap.size ≤ B := by omega
    rw [← hB] at hbd
    have HBD3 := Lib.hid hbd
    clear b3 HNW HAL hB hbd hsz1
    go_wp2_with fail
    (with_reducible refine HA3.out.mono ?_)
    rintro e w4 ⟨rfl, b4⟩
    have hbd4 := HSL.out.keep HBD3.out b4
    have HO4 := Lib.hid (HOP.out _ w4 b hbd4)
    have HB4 := Lib.hid (HB3.out.trans (b4.mono HB3.out.size))
    clear b4 hbd4 HBD3 HOP HA3
    go_wp2_with fail
    (with_reducible refine HO4.out.mono ?_)
    rintro e w5 ⟨rfl, hbd5, b5⟩
    have HB5 := Lib.hid (HB4.out.trans (b5.mono hBw))
    have HOV := Lib.hid (HSL.out.over B w5 b hbd5)
    have HD5 := Lib.hid hbd5
    clear b5 hbd5 HO4
    go_wp2_with fail
    (with_reducible refine HOV.out.mono ?_)
    rintro e w6 ⟨s1, k1, rfl, b6⟩
    have HD6 := Lib.hid (HSL.out.keep HD5.out b6)
    have HUN := Lib.hid (HSL.out.under B w6 b HD6.out)
    have HB6 := Lib.hid (HB5.out.trans (b6.mono HB5.out.size))
    clear b6 HOV HD5
    go_wp2_with fail
    (with_reducible refine HUN.out.mono ?_)
    rintro e w7 ⟨s2, k2, rfl, b7⟩
    have HD7 := Lib.hid (HSL.out.keep HD6.out b7)
    have HB7 := Lib.hid (HB6.out.trans (b7.mono HB6.out.size))
    clear b7 HUN HD6
    go_wp2_with fail
    go_loopw [106] (fun i wr => ∃ k : Nat, k ≤ rows.length ∧ i = .int .i64 k ∧ Hid (Bd B wr b rows) ∧ Hid (Below w.heap.size w wr)) (fun i _ => rows.length - (intOf i).toNat)
    case atStart => exact ⟨0, by omega, rfl, HD7, HB7⟩
    case round =>
      obtain ⟨k, hk, rfl, HD, HB⟩ := hrel
      clear HD7 HB7
      by_cases hlt : k < rows.length
      · obtain ⟨rb, ro, rfl, hrb, ai, ci, hcell, hsl⟩ := rs_row (HS.out.later HB.out) hlt
        have hkz : (k : Int) < (rows.length : Int) := by omega
        have hl100 := H100.out _ (List.getElem_mem hlt)
        have hx : rows[k] = rows[k] := rfl
        have hkR := hlt
        obtain ⟨l, hl⟩ : ∃ l, l = rows[k] := ⟨_, rfl⟩
        have hx : rows[k] = l := hl.symm
        rw [← hl] at hcell hsl hl100
        clear hl
        obtain ⟨aw, haw⟩ : ∃ aw, aw = ai := ⟨_, rfl⟩
        obtain ⟨cw, hcw⟩ : ∃ cw, cw = ci := ⟨_, rfl⟩
        rw [← haw, ← hcw] at hcell hsl
        clear haw hcw
        have HSX : Hid (Sl wr aw cw l) := hsl
        have HD2 := HD
        have HB2 := HB
        clear hsl HD HB
        obtain ⟨wd, hwd⟩ : ∃ wd, wd = wr.drew := ⟨_, rfl⟩
        have HDd : Hid (Bd B wd b rows) := by rw [hwd]; exact HSL.out.keep HD2.out (Below.refl _ _).drew
        have HBd : Hid (Below w.heap.size w wd) := by rw [hwd]; exact HB2.out.drew
        have cvx : ∀ u : Up wd, (convert 34 9 (.slice aw l.length cw)).run Try.prog u.v = .ok (.string (strOf l)) u.v := fun u => conv_n (by
          have h : Sl wd aw cw l := by rw [hwd]; exact HSX.out.drew
          exact h.below (up_below u)) rfl
        have HCL := Lib.hid (HSL.out.slot B wd b k hkR l HDd.out hx)
        clear HD2 HB2 HSX
        go_wp2_with fail
        refine growK_begin 6 (fun w' => ∃ u : Up wd, w' = u.v) (by kernel_rfl) ?_
        rw [← hwd]
        clear hwd
        refine growK_take (by kernel_rfl) [0, 1, 4, 5] 3 _ _ (by kernel_rfl) _ (up_class (Fr.refl _ _)) ?_
        simp only [opsAt, List.getElem?_toArray, List.getElem?_cons_succ, List.getElem?_cons_zero]
        repeat (first | go_big_quiet_step (fail) | quiet_step (fail))
        refine wpQuiet_nil ?_
        clear cvx
        refine growK_one 2 (by kernel_rfl) (fun K hK => ?_)
        simp only [stepOf, List.getElem?_toArray, List.getElem?_cons_succ, List.getElem?_cons_zero]
        go_simp
        go_at_call 13
        (with_reducible refine HCL.out.mono ?_)
        rintro e w9 ⟨a9, c9, rfl, hs9, b9⟩
        have HD9 := Lib.hid (HSL.out.keep HDd.out b9)
        have HB9 := Lib.hid (HBd.out.trans (b9.mono HBd.out.size))
        have cv9 := conv_n hs9 rfl
        have fr9 : Fr (fun _ => False) wd w9 := Fr.of_below b9
        refine hK.out _ _ (up_class fr9) ?_
        clear hK K HCL hs9 b9 HDd HBd
        refine growK_one 3 (by kernel_rfl) (fun K hK => ?_)
        simp only [stepOf, List.getElem?_toArray, List.getElem?_cons_succ, List.getElem?_cons_zero]
        go_simp
        refine hK.out _ _ (up_class fr9) ?_
        clear hK K cv9
        refine growK_last (by kernel_rfl) (by kernel_rfl) (fun K hK => ?_)
        simp only [stepOf, List.getElem?_toArray, List.getElem?_cons_succ, List.getElem?_cons_zero]
        go_simp
        refine hK.out _ _ ?_
        clear hK K fr9
        go_wp2_with fail
        go_roundw
        case rel => exact ⟨k + 1, by omega, by go_num, HD9, HB9⟩
        case measure => simp [intOf]; omega
      · obtain rfl : k = rows.length := by omega
        go_wp2_with fail
        (with_reducible refine (HN1.out wr).mono ?_)
        rintro e x1 ⟨rfl, y1⟩
        have HX1 := Lib.hid (HB.out.trans (y1.mono HB.out.size))
        clear y1
        go_wp2_with fail
        (with_reducible refine (HN2.out x1).mono ?_)
        rintro e x2 ⟨rfl, y2⟩
        have HX2 := Lib.hid (HX1.out.trans (y2.mono HX1.out.size))
        clear y2
        go_wp2_with fail
        (with_reducible refine (HN3.out x2).mono ?_)
        rintro e x3 ⟨s3, k3, rfl, y3⟩
        have HX3 := Lib.hid (HX2.out.trans (y3.mono HX2.out.size))
        clear y3
        go_wp2_with fail
        go_ret
        exact ⟨rfl, HX3.out⟩

set_option maxRecDepth 1000000 in
set_option maxHeartbeats 8000000 in
theorem boards_badAdd {Bd : Nat → World → Nat → Rws → Prop} (HC : RepC Bd) (a : Option Addr) (cap : Nat) (rows : Rws) (t f : Int) (ht : -9223372036854775808 ≤ t ∧ t ≤ 9223372036854775807) (hf : -9223372036854775808 ≤ f ∧ f ≤ 9223372036854775807) (c : Nat) (hc : c < 256) (w : World) (hs : Rs w.heap.size w a cap rows) (hF : fewC rows = true) (hA : alikeB rows = true) (hbad : ¬ (inS rows.length t ∧ inS rows.length f ∧ t ≠ f)) :
    Calls Try.prog 4 #[.slice a rows.length cap, .int .i64 t, .int .i64 f, .int .u8 (c : Int), .bool false] w (TrueAnd w) := by
  have h40 := (fewC_iff.1 hF).1
  have h100 := (fewC_iff.1 hF).2
  have HA : Hid (Calls Try.prog 5 #[] w fun e w' => e = .returned (.bool true) ∧ Below w.heap.size w w') := awake12_any HC w
  have HS := Lib.hid hs
  have HFW : Hid (∀ w', Below w.heap.size w w' → Calls Try.prog 6 #[.slice a rows.length cap] w' fun e w'' => e = .returned (.bool true) ∧ w' = w'') := fun w' k => by
    have h := few12_any _ a cap rows w' (HS.out.later k)
    rw [hF] at h; exact h
  have HAL : Hid (∀ w', Below w.heap.size w w' → Calls Try.prog 8 #[.slice a rows.length cap] w' fun e w'' => e = .returned (.bool true) ∧ Below w'.heap.size w' w'') := fun w' k => by
    have h := alike_any _ a cap rows w' (Nat.le_refl _) (HS.out.later k)
    rw [hA] at h; exact h
  have HNB : Hid (∀ w', Below w.heap.size w w' → Calls Try.prog 10 #[.slice a rows.length cap] w' fun e w'' => ∃ b, e = .returned (.tuple #[.pointer (some ⟨b, 0, none⟩), .int .i64 0]) ∧ Bd w'.heap.size w'' b rows ∧ Below w'.heap.size w' w'') := fun w' k => HC.new a cap rows w' (HS.out.later k) hF hA
  have HOP : Hid (∀ B w b, Bd B w b rows → Calls Try.prog 12 #[.pointer (some ⟨b, 0, none⟩), .int .i64 t, .int .i64 f, .int .u8 (c : Int)] w fun e w' => e = .returned (.int .i64 1) ∧ Bd B w' b rows ∧ Below B w w') := fun B w b hb => HC.addBad B w b rows t f c hb hF ht hf hc hbad
  have HSL := Lib.hid (HC.slots hF)
  have HN1 : Hid (∀ w, Calls Try.prog 12 #[.pointer none, .int .i64 t, .int .i64 f, .int .u8 (c : Int)] w fun e w' => e = .returned (.int .i64 1) ∧ Below w.heap.size w w') := fun w => HC.nilAdd w _ f c ht hf hc
  have HN2 : Hid (∀ w, Calls Try.prog 11 #[.pointer none, .int .i64 t, .int .u8 (c : Int)] w fun e w' => e = .returned (.int .i64 1) ∧ Below w.heap.size w w') := fun w => HC.nilScale w _ c ht hc
  have HN3 : Hid (∀ w, Calls Try.prog 13 #[.pointer none, .int .i64 t] w fun e w' => ∃ sa sc, e = .returned (.slice sa 0 sc) ∧ Below w.heap.size w w') := fun w => HC.nilSlot w _ ht
  have H100 := Lib.hid h100
  clear HC hs hF hA h100
  by_cases h0 : t < 0
  · clear hbad
    have g_t : ¬ (0 : Int) ≤ t := by omega
    have d_t : decide ((0 : Int) ≤ t) = false := decide_eq_false g_t
    go_enter Try.func4, Try.ntmps4
    go_wp2_with fail
    (with_reducible refine HA.out.mono ?_)
    rintro e w1 ⟨rfl, b1⟩
    have HB1 := Lib.hid b1
    have HF1 := Lib.hid (HFW.out w1 b1)
    have HNW := Lib.hid (HNB.out w1 b1)
    clear b1 HFW HA HNB
    go_wp2_with fail
    (with_reducible refine HF1.out.mono ?_)
    rintro e w2 ⟨rfl, rfl⟩
    clear HF1
    go_wp2_with fail
    (with_reducible refine HNW.out.mono ?_)
    rintro e w3 ⟨b, rfl, hbd, b3⟩
    have HB3 := Lib.hid (HB1.out.trans (b3.mono HB1.out.size))
    have HA3 := Lib.hid (HAL.out w3 HB3.out)
    have hsz1 := HB1.out.size
    obtain ⟨B, hB⟩ : ∃ B, B = w1.heap.size := ⟨_, rfl⟩
    have hBw : w.heap.size ≤ B := by omega
    rw [← hB] at hbd
    have HBD3 := Lib.hid hbd
    clear b3 HNW HAL hB hbd hsz1
    go_wp2_with fail
    (with_reducible refine HA3.out.mono ?_)
    rintro e w4 ⟨rfl, b4⟩
    have hbd4 := HSL.out.keep HBD3.out b4
    have HO4 := Lib.hid (HOP.out _ w4 b hbd4)
    have HB4 := Lib.hid (HB3.out.trans (b4.mono HB3.out.size))
    clear b4 hbd4 HBD3 HOP HA3
    go_wp2_with fail
    (with_reducible refine HO4.out.mono ?_)
    rintro e w5 ⟨rfl, hbd5, b5⟩
    have HB5 := Lib.hid (HB4.out.trans (b5.mono hBw))
    have HOV := Lib.hid (HSL.out.over B w5 b hbd5)
    have HD5 := Lib.hid hbd5
    clear b5 hbd5 HO4
    go_wp2_with fail
    (with_reducible refine HOV.out.mono ?_)
    rintro e w6 ⟨s1, k1, rfl, b6⟩
    have HD6 := Lib.hid (HSL.out.keep HD5.out b6)
    have HUN := Lib.hid (HSL.out.under B w6 b HD6.out)
    have HB6 := Lib.hid (HB5.out.trans (b6.mono HB5.out.size))
    clear b6 HOV HD5
    go_wp2_with fail
    (with_reducible refine HUN.out.mono ?_)
    rintro e w7 ⟨s2, k2, rfl, b7⟩
    have HD7 := Lib.hid (HSL.out.keep HD6.out b7)
    have HB7 := Lib.hid (HB6.out.trans (b7.mono HB6.out.size))
    clear b7 HUN HD6
    go_wp2_with fail
    go_loopw [106] (fun i wr => ∃ k : Nat, k ≤ rows.length ∧ i = .int .i64 k ∧ Hid (Bd B wr b rows) ∧ Hid (Below w.heap.size w wr)) (fun i _ => rows.length - (intOf i).toNat)
    case atStart => exact ⟨0, by omega, rfl, HD7, HB7⟩
    case round =>
      obtain ⟨k, hk, rfl, HD, HB⟩ := hrel
      clear HD7 HB7
      by_cases hlt : k < rows.length
      · obtain ⟨rb, ro, rfl, hrb, ai, ci, hcell, hsl⟩ := rs_row (HS.out.later HB.out) hlt
        have hkz : (k : Int) < (rows.length : Int) := by omega
        have hl100 := H100.out _ (List.getElem_mem hlt)
        have hx : rows[k] = rows[k] := rfl
        have hkR := hlt
        obtain ⟨l, hl⟩ : ∃ l, l = rows[k] := ⟨_, rfl⟩
        have hx : rows[k] = l := hl.symm
        rw [← hl] at hcell hsl hl100
        clear hl
        obtain ⟨aw, haw⟩ : ∃ aw, aw = ai := ⟨_, rfl⟩
        obtain ⟨cw, hcw⟩ : ∃ cw, cw = ci := ⟨_, rfl⟩
        rw [← haw, ← hcw] at hcell hsl
        clear haw hcw
        have HSX : Hid (Sl wr aw cw l) := hsl
        have HD2 := HD
        have HB2 := HB
        clear hsl HD HB
        obtain ⟨wd, hwd⟩ : ∃ wd, wd = wr.drew := ⟨_, rfl⟩
        have HDd : Hid (Bd B wd b rows) := by rw [hwd]; exact HSL.out.keep HD2.out (Below.refl _ _).drew
        have HBd : Hid (Below w.heap.size w wd) := by rw [hwd]; exact HB2.out.drew
        have cvx : ∀ u : Up wd, (convert 34 9 (.slice aw l.length cw)).run Try.prog u.v = .ok (.string (strOf l)) u.v := fun u => conv_n (by
          have h : Sl wd aw cw l := by rw [hwd]; exact HSX.out.drew
          exact h.below (up_below u)) rfl
        have HCL := Lib.hid (HSL.out.slot B wd b k hkR l HDd.out hx)
        clear HD2 HB2 HSX
        go_wp2_with fail
        refine growK_begin 6 (fun w' => ∃ u : Up wd, w' = u.v) (by kernel_rfl) ?_
        rw [← hwd]
        clear hwd
        refine growK_take (by kernel_rfl) [0, 1, 4, 5] 3 _ _ (by kernel_rfl) _ (up_class (Fr.refl _ _)) ?_
        simp only [opsAt, List.getElem?_toArray, List.getElem?_cons_succ, List.getElem?_cons_zero]
        repeat (first | go_big_quiet_step (fail) | quiet_step (fail))
        refine wpQuiet_nil ?_
        clear cvx
        refine growK_one 2 (by kernel_rfl) (fun K hK => ?_)
        simp only [stepOf, List.getElem?_toArray, List.getElem?_cons_succ, List.getElem?_cons_zero]
        go_simp
        go_at_call 13
        (with_reducible refine HCL.out.mono ?_)
        rintro e w9 ⟨a9, c9, rfl, hs9, b9⟩
        have HD9 := Lib.hid (HSL.out.keep HDd.out b9)
        have HB9 := Lib.hid (HBd.out.trans (b9.mono HBd.out.size))
        have cv9 := conv_n hs9 rfl
        have fr9 : Fr (fun _ => False) wd w9 := Fr.of_below b9
        refine hK.out _ _ (up_class fr9) ?_
        clear hK K HCL hs9 b9 HDd HBd
        refine growK_one 3 (by kernel_rfl) (fun K hK => ?_)
        simp only [stepOf, List.getElem?_toArray, List.getElem?_cons_succ, List.getElem?_cons_zero]
        go_simp
        refine hK.out _ _ (up_class fr9) ?_
        clear hK K cv9
        refine growK_last (by kernel_rfl) (by kernel_rfl) (fun K hK => ?_)
        simp only [stepOf, List.getElem?_toArray, List.getElem?_cons_succ, List.getElem?_cons_zero]
        go_simp
        refine hK.out _ _ ?_
        clear hK K fr9
        go_wp2_with fail
        go_roundw
        case rel => exact ⟨k + 1, by omega, by go_num, HD9, HB9⟩
        case measure => simp [intOf]; omega
      · obtain rfl : k = rows.length := by omega
        go_wp2_with fail
        (with_reducible refine (HN1.out wr).mono ?_)
        rintro e x1 ⟨rfl, y1⟩
        have HX1 := Lib.hid (HB.out.trans (y1.mono HB.out.size))
        clear y1
        go_wp2_with fail
        (with_reducible refine (HN2.out x1).mono ?_)
        rintro e x2 ⟨rfl, y2⟩
        have HX2 := Lib.hid (HX1.out.trans (y2.mono HX1.out.size))
        clear y2
        go_wp2_with fail
        (with_reducible refine (HN3.out x2).mono ?_)
        rintro e x3 ⟨s3, k3, rfl, y3⟩
        have HX3 := Lib.hid (HX2.out.trans (y3.mono HX2.out.size))
        clear y3
        go_wp2_with fail
        go_ret
        exact ⟨rfl, HX3.out⟩
  · by_cases h1 : (rows.length : Int) ≤ t
    · clear hbad
      have g_t : (0 : Int) ≤ t := by omega
      have d_t : decide ((0 : Int) ≤ t) = true := decide_eq_true g_t
      have k_t : ¬ t < (rows.length : Int) := by omega
      have e_t : decide (t < (rows.length : Int)) = false := decide_eq_false k_t
      go_enter Try.func4, Try.ntmps4
      go_wp2_with fail
      (with_reducible refine HA.out.mono ?_)
      rintro e w1 ⟨rfl, b1⟩
      have HB1 := Lib.hid b1
      have HF1 := Lib.hid (HFW.out w1 b1)
      have HNW := Lib.hid (HNB.out w1 b1)
      clear b1 HFW HA HNB
      go_wp2_with fail
      (with_reducible refine HF1.out.mono ?_)
      rintro e w2 ⟨rfl, rfl⟩
      clear HF1
      go_wp2_with fail
      (with_reducible refine HNW.out.mono ?_)
      rintro e w3 ⟨b, rfl, hbd, b3⟩
      have HB3 := Lib.hid (HB1.out.trans (b3.mono HB1.out.size))
      have HA3 := Lib.hid (HAL.out w3 HB3.out)
      have hsz1 := HB1.out.size
      obtain ⟨B, hB⟩ : ∃ B, B = w1.heap.size := ⟨_, rfl⟩
      have hBw : w.heap.size ≤ B := by omega
      rw [← hB] at hbd
      have HBD3 := Lib.hid hbd
      clear b3 HNW HAL hB hbd hsz1
      go_wp2_with fail
      (with_reducible refine HA3.out.mono ?_)
      rintro e w4 ⟨rfl, b4⟩
      have hbd4 := HSL.out.keep HBD3.out b4
      have HO4 := Lib.hid (HOP.out _ w4 b hbd4)
      have HB4 := Lib.hid (HB3.out.trans (b4.mono HB3.out.size))
      clear b4 hbd4 HBD3 HOP HA3
      go_wp2_with fail
      (with_reducible refine HO4.out.mono ?_)
      rintro e w5 ⟨rfl, hbd5, b5⟩
      have HB5 := Lib.hid (HB4.out.trans (b5.mono hBw))
      have HOV := Lib.hid (HSL.out.over B w5 b hbd5)
      have HD5 := Lib.hid hbd5
      clear b5 hbd5 HO4
      go_wp2_with fail
      (with_reducible refine HOV.out.mono ?_)
      rintro e w6 ⟨s1, k1, rfl, b6⟩
      have HD6 := Lib.hid (HSL.out.keep HD5.out b6)
      have HUN := Lib.hid (HSL.out.under B w6 b HD6.out)
      have HB6 := Lib.hid (HB5.out.trans (b6.mono HB5.out.size))
      clear b6 HOV HD5
      go_wp2_with fail
      (with_reducible refine HUN.out.mono ?_)
      rintro e w7 ⟨s2, k2, rfl, b7⟩
      have HD7 := Lib.hid (HSL.out.keep HD6.out b7)
      have HB7 := Lib.hid (HB6.out.trans (b7.mono HB6.out.size))
      clear b7 HUN HD6
      go_wp2_with fail
      go_loopw [106] (fun i wr => ∃ k : Nat, k ≤ rows.length ∧ i = .int .i64 k ∧ Hid (Bd B wr b rows) ∧ Hid (Below w.heap.size w wr)) (fun i _ => rows.length - (intOf i).toNat)
      case atStart => exact ⟨0, by omega, rfl, HD7, HB7⟩
      case round =>
        obtain ⟨k, hk, rfl, HD, HB⟩ := hrel
        clear HD7 HB7
        by_cases hlt : k < rows.length
        · obtain ⟨rb, ro, rfl, hrb, ai, ci, hcell, hsl⟩ := rs_row (HS.out.later HB.out) hlt
          have hkz : (k : Int) < (rows.length : Int) := by omega
          have hl100 := H100.out _ (List.getElem_mem hlt)
          have hx : rows[k] = rows[k] := rfl
          have hkR := hlt
          obtain ⟨l, hl⟩ : ∃ l, l = rows[k] := ⟨_, rfl⟩
          have hx : rows[k] = l := hl.symm
          rw [← hl] at hcell hsl hl100
          clear hl
          obtain ⟨aw, haw⟩ : ∃ aw, aw = ai := ⟨_, rfl⟩
          obtain ⟨cw, hcw⟩ : ∃ cw, cw = ci := ⟨_, rfl⟩
          rw [← haw, ← hcw] at hcell hsl
          clear haw hcw
          have HSX : Hid (Sl wr aw cw l) := hsl
          have HD2 := HD
          have HB2 := HB
          clear hsl HD HB
          obtain ⟨wd, hwd⟩ : ∃ wd, wd = wr.drew := ⟨_, rfl⟩
          have HDd : Hid (Bd B wd b rows) := by rw [hwd]; exact HSL.out.keep HD2.out (Below.refl _ _).drew
          have HBd : Hid (Below w.heap.size w wd) := by rw [hwd]; exact HB2.out.drew
          have cvx : ∀ u : Up wd, (convert 34 9 (.slice aw l.length cw)).run Try.prog u.v = .ok (.string (strOf l)) u.v := fun u => conv_n (by
            have h : Sl wd aw cw l := by rw [hwd]; exact HSX.out.drew
            exact h.below (up_below u)) rfl
          have HCL := Lib.hid (HSL.out.slot B wd b k hkR l HDd.out hx)
          clear HD2 HB2 HSX
          go_wp2_with fail
          refine growK_begin 6 (fun w' => ∃ u : Up wd, w' = u.v) (by kernel_rfl) ?_
          rw [← hwd]
          clear hwd
          refine growK_take (by kernel_rfl) [0, 1, 4, 5] 3 _ _ (by kernel_rfl) _ (up_class (Fr.refl _ _)) ?_
          simp only [opsAt, List.getElem?_toArray, List.getElem?_cons_succ, List.getElem?_cons_zero]
          repeat (first | go_big_quiet_step (fail) | quiet_step (fail))
          refine wpQuiet_nil ?_
          clear cvx
          refine growK_one 2 (by kernel_rfl) (fun K hK => ?_)
          simp only [stepOf, List.getElem?_toArray, List.getElem?_cons_succ, List.getElem?_cons_zero]
          go_simp
          go_at_call 13
          (with_reducible refine HCL.out.mono ?_)
          rintro e w9 ⟨a9, c9, rfl, hs9, b9⟩
          have HD9 := Lib.hid (HSL.out.keep HDd.out b9)
          have HB9 := Lib.hid (HBd.out.trans (b9.mono HBd.out.size))
          have cv9 := conv_n hs9 rfl
          have fr9 : Fr (fun _ => False) wd w9 := Fr.of_below b9
          refine hK.out _ _ (up_class fr9) ?_
          clear hK K HCL hs9 b9 HDd HBd
          refine growK_one 3 (by kernel_rfl) (fun K hK => ?_)
          simp only [stepOf, List.getElem?_toArray, List.getElem?_cons_succ, List.getElem?_cons_zero]
          go_simp
          refine hK.out _ _ (up_class fr9) ?_
          clear hK K cv9
          refine growK_last (by kernel_rfl) (by kernel_rfl) (fun K hK => ?_)
          simp only [stepOf, List.getElem?_toArray, List.getElem?_cons_succ, List.getElem?_cons_zero]
          go_simp
          refine hK.out _ _ ?_
          clear hK K fr9
          go_wp2_with fail
          go_roundw
          case rel => exact ⟨k + 1, by omega, by go_num, HD9, HB9⟩
          case measure => simp [intOf]; omega
        · obtain rfl : k = rows.length := by omega
          go_wp2_with fail
          (with_reducible refine (HN1.out wr).mono ?_)
          rintro e x1 ⟨rfl, y1⟩
          have HX1 := Lib.hid (HB.out.trans (y1.mono HB.out.size))
          clear y1
          go_wp2_with fail
          (with_reducible refine (HN2.out x1).mono ?_)
          rintro e x2 ⟨rfl, y2⟩
          have HX2 := Lib.hid (HX1.out.trans (y2.mono HX1.out.size))
          clear y2
          go_wp2_with fail
          (with_reducible refine (HN3.out x2).mono ?_)
          rintro e x3 ⟨s3, k3, rfl, y3⟩
          have HX3 := Lib.hid (HX2.out.trans (y3.mono HX2.out.size))
          clear y3
          go_wp2_with fail
          go_ret
          exact ⟨rfl, HX3.out⟩
    · by_cases h2 : f < 0
      · clear hbad
        have g_t : (0 : Int) ≤ t := by omega
        have d_t : decide ((0 : Int) ≤ t) = true := decide_eq_true g_t
        have k_t : t < (rows.length : Int) := by omega
        have e_t : decide (t < (rows.length : Int)) = true := decide_eq_true k_t
        have g_f : ¬ (0 : Int) ≤ f := by omega
        have d_f : decide ((0 : Int) ≤ f) = false := decide_eq_false g_f
        go_enter Try.func4, Try.ntmps4
        go_wp2_with fail
        (with_reducible refine HA.out.mono ?_)
        rintro e w1 ⟨rfl, b1⟩
        have HB1 := Lib.hid b1
        have HF1 := Lib.hid (HFW.out w1 b1)
        have HNW := Lib.hid (HNB.out w1 b1)
        clear b1 HFW HA HNB
        go_wp2_with fail
        (with_reducible refine HF1.out.mono ?_)
        rintro e w2 ⟨rfl, rfl⟩
        clear HF1
        go_wp2_with fail
        (with_reducible refine HNW.out.mono ?_)
        rintro e w3 ⟨b, rfl, hbd, b3⟩
        have HB3 := Lib.hid (HB1.out.trans (b3.mono HB1.out.size))
        have HA3 := Lib.hid (HAL.out w3 HB3.out)
        have hsz1 := HB1.out.size
        obtain ⟨B, hB⟩ : ∃ B, B = w1.heap.size := ⟨_, rfl⟩
        have hBw : w.heap.size ≤ B := by omega
        rw [← hB] at hbd
        have HBD3 := Lib.hid hbd
        clear b3 HNW HAL hB hbd hsz1
        go_wp2_with fail
        (with_reducible refine HA3.out.mono ?_)
        rintro e w4 ⟨rfl, b4⟩
        have hbd4 := HSL.out.keep HBD3.out b4
        have HO4 := Lib.hid (HOP.out _ w4 b hbd4)
        have HB4 := Lib.hid (HB3.out.trans (b4.mono HB3.out.size))
        clear b4 hbd4 HBD3 HOP HA3
        go_wp2_with fail
        (with_reducible refine HO4.out.mono ?_)
        rintro e w5 ⟨rfl, hbd5, b5⟩
        have HB5 := Lib.hid (HB4.out.trans (b5.mono hBw))
        have HOV := Lib.hid (HSL.out.over B w5 b hbd5)
        have HD5 := Lib.hid hbd5
        clear b5 hbd5 HO4
        go_wp2_with fail
        (with_reducible refine HOV.out.mono ?_)
        rintro e w6 ⟨s1, k1, rfl, b6⟩
        have HD6 := Lib.hid (HSL.out.keep HD5.out b6)
        have HUN := Lib.hid (HSL.out.under B w6 b HD6.out)
        have HB6 := Lib.hid (HB5.out.trans (b6.mono HB5.out.size))
        clear b6 HOV HD5
        go_wp2_with fail
        (with_reducible refine HUN.out.mono ?_)
        rintro e w7 ⟨s2, k2, rfl, b7⟩
        have HD7 := Lib.hid (HSL.out.keep HD6.out b7)
        have HB7 := Lib.hid (HB6.out.trans (b7.mono HB6.out.size))
        clear b7 HUN HD6
        go_wp2_with fail
        go_loopw [106] (fun i wr => ∃ k : Nat, k ≤ rows.length ∧ i = .int .i64 k ∧ Hid (Bd B wr b rows) ∧ Hid (Below w.heap.size w wr)) (fun i _ => rows.length - (intOf i).toNat)
        case atStart => exact ⟨0, by omega, rfl, HD7, HB7⟩
        case round =>
          obtain ⟨k, hk, rfl, HD, HB⟩ := hrel
          clear HD7 HB7
          by_cases hlt : k < rows.length
          · obtain ⟨rb, ro, rfl, hrb, ai, ci, hcell, hsl⟩ := rs_row (HS.out.later HB.out) hlt
            have hkz : (k : Int) < (rows.length : Int) := by omega
            have hl100 := H100.out _ (List.getElem_mem hlt)
            have hx : rows[k] = rows[k] := rfl
            have hkR := hlt
            obtain ⟨l, hl⟩ : ∃ l, l = rows[k] := ⟨_, rfl⟩
            have hx : rows[k] = l := hl.symm
            rw [← hl] at hcell hsl hl100
            clear hl
            obtain ⟨aw, haw⟩ : ∃ aw, aw = ai := ⟨_, rfl⟩
            obtain ⟨cw, hcw⟩ : ∃ cw, cw = ci := ⟨_, rfl⟩
            rw [← haw, ← hcw] at hcell hsl
            clear haw hcw
            have HSX : Hid (Sl wr aw cw l) := hsl
            have HD2 := HD
            have HB2 := HB
            clear hsl HD HB
            obtain ⟨wd, hwd⟩ : ∃ wd, wd = wr.drew := ⟨_, rfl⟩
            have HDd : Hid (Bd B wd b rows) := by rw [hwd]; exact HSL.out.keep HD2.out (Below.refl _ _).drew
            have HBd : Hid (Below w.heap.size w wd) := by rw [hwd]; exact HB2.out.drew
            have cvx : ∀ u : Up wd, (convert 34 9 (.slice aw l.length cw)).run Try.prog u.v = .ok (.string (strOf l)) u.v := fun u => conv_n (by
              have h : Sl wd aw cw l := by rw [hwd]; exact HSX.out.drew
              exact h.below (up_below u)) rfl
            have HCL := Lib.hid (HSL.out.slot B wd b k hkR l HDd.out hx)
            clear HD2 HB2 HSX
            go_wp2_with fail
            refine growK_begin 6 (fun w' => ∃ u : Up wd, w' = u.v) (by kernel_rfl) ?_
            rw [← hwd]
            clear hwd
            refine growK_take (by kernel_rfl) [0, 1, 4, 5] 3 _ _ (by kernel_rfl) _ (up_class (Fr.refl _ _)) ?_
            simp only [opsAt, List.getElem?_toArray, List.getElem?_cons_succ, List.getElem?_cons_zero]
            repeat (first | go_big_quiet_step (fail) | quiet_step (fail))
            refine wpQuiet_nil ?_
            clear cvx
            refine growK_one 2 (by kernel_rfl) (fun K hK => ?_)
            simp only [stepOf, List.getElem?_toArray, List.getElem?_cons_succ, List.getElem?_cons_zero]
            go_simp
            go_at_call 13
            (with_reducible refine HCL.out.mono ?_)
            rintro e w9 ⟨a9, c9, rfl, hs9, b9⟩
            have HD9 := Lib.hid (HSL.out.keep HDd.out b9)
            have HB9 := Lib.hid (HBd.out.trans (b9.mono HBd.out.size))
            have cv9 := conv_n hs9 rfl
            have fr9 : Fr (fun _ => False) wd w9 := Fr.of_below b9
            refine hK.out _ _ (up_class fr9) ?_
            clear hK K HCL hs9 b9 HDd HBd
            refine growK_one 3 (by kernel_rfl) (fun K hK => ?_)
            simp only [stepOf, List.getElem?_toArray, List.getElem?_cons_succ, List.getElem?_cons_zero]
            go_simp
            refine hK.out _ _ (up_class fr9) ?_
            clear hK K cv9
            refine growK_last (by kernel_rfl) (by kernel_rfl) (fun K hK => ?_)
            simp only [stepOf, List.getElem?_toArray, List.getElem?_cons_succ, List.getElem?_cons_zero]
            go_simp
            refine hK.out _ _ ?_
            clear hK K fr9
            go_wp2_with fail
            go_roundw
            case rel => exact ⟨k + 1, by omega, by go_num, HD9, HB9⟩
            case measure => simp [intOf]; omega
          · obtain rfl : k = rows.length := by omega
            go_wp2_with fail
            (with_reducible refine (HN1.out wr).mono ?_)
            rintro e x1 ⟨rfl, y1⟩
            have HX1 := Lib.hid (HB.out.trans (y1.mono HB.out.size))
            clear y1
            go_wp2_with fail
            (with_reducible refine (HN2.out x1).mono ?_)
            rintro e x2 ⟨rfl, y2⟩
            have HX2 := Lib.hid (HX1.out.trans (y2.mono HX1.out.size))
            clear y2
            go_wp2_with fail
            (with_reducible refine (HN3.out x2).mono ?_)
            rintro e x3 ⟨s3, k3, rfl, y3⟩
            have HX3 := Lib.hid (HX2.out.trans (y3.mono HX2.out.size))
            clear y3
            go_wp2_with fail
            go_ret
            exact ⟨rfl, HX3.out⟩
      · by_cases h3 : (rows.length : Int) ≤ f
        · clear hbad
          have g_t : (0 : Int) ≤ t := by omega
          have d_t : decide ((0 : Int) ≤ t) = true := decide_eq_true g_t
          have k_t : t < (rows.length : Int) := by omega
          have e_t : decide (t < (rows.length : Int)) = true := decide_eq_true k_t
          have g_f : (0 : Int) ≤ f := by omega
          have d_f : decide ((0 : Int) ≤ f) = true := decide_eq_true g_f
          have k_f : ¬ f < (rows.length : Int) := by omega
          have e_f : decide (f < (rows.length : Int)) = false := decide_eq_false k_f
          go_enter Try.func4, Try.ntmps4
          go_wp2_with fail
          (with_reducible refine HA.out.mono ?_)
          rintro e w1 ⟨rfl, b1⟩
          have HB1 := Lib.hid b1
          have HF1 := Lib.hid (HFW.out w1 b1)
          have HNW := Lib.hid (HNB.out w1 b1)
          clear b1 HFW HA HNB
          go_wp2_with fail
          (with_reducible refine HF1.out.mono ?_)
          rintro e w2 ⟨rfl, rfl⟩
          clear HF1
          go_wp2_with fail
          (with_reducible refine HNW.out.mono ?_)
          rintro e w3 ⟨b, rfl, hbd, b3⟩
          have HB3 := Lib.hid (HB1.out.trans (b3.mono HB1.out.size))
          have HA3 := Lib.hid (HAL.out w3 HB3.out)
          have hsz1 := HB1.out.size
          obtain ⟨B, hB⟩ : ∃ B, B = w1.heap.size := ⟨_, rfl⟩
          have hBw : w.heap.size ≤ B := by omega
          rw [← hB] at hbd
          have HBD3 := Lib.hid hbd
          clear b3 HNW HAL hB hbd hsz1
          go_wp2_with fail
          (with_reducible refine HA3.out.mono ?_)
          rintro e w4 ⟨rfl, b4⟩
          have hbd4 := HSL.out.keep HBD3.out b4
          have HO4 := Lib.hid (HOP.out _ w4 b hbd4)
          have HB4 := Lib.hid (HB3.out.trans (b4.mono HB3.out.size))
          clear b4 hbd4 HBD3 HOP HA3
          go_wp2_with fail
          (with_reducible refine HO4.out.mono ?_)
          rintro e w5 ⟨rfl, hbd5, b5⟩
          have HB5 := Lib.hid (HB4.out.trans (b5.mono hBw))
          have HOV := Lib.hid (HSL.out.over B w5 b hbd5)
          have HD5 := Lib.hid hbd5
          clear b5 hbd5 HO4
          go_wp2_with fail
          (with_reducible refine HOV.out.mono ?_)
          rintro e w6 ⟨s1, k1, rfl, b6⟩
          have HD6 := Lib.hid (HSL.out.keep HD5.out b6)
          have HUN := Lib.hid (HSL.out.under B w6 b HD6.out)
          have HB6 := Lib.hid (HB5.out.trans (b6.mono HB5.out.size))
          clear b6 HOV HD5
          go_wp2_with fail
          (with_reducible refine HUN.out.mono ?_)
          rintro e w7 ⟨s2, k2, rfl, b7⟩
          have HD7 := Lib.hid (HSL.out.keep HD6.out b7)
          have HB7 := Lib.hid (HB6.out.trans (b7.mono HB6.out.size))
          clear b7 HUN HD6
          go_wp2_with fail
          go_loopw [106] (fun i wr => ∃ k : Nat, k ≤ rows.length ∧ i = .int .i64 k ∧ Hid (Bd B wr b rows) ∧ Hid (Below w.heap.size w wr)) (fun i _ => rows.length - (intOf i).toNat)
          case atStart => exact ⟨0, by omega, rfl, HD7, HB7⟩
          case round =>
            obtain ⟨k, hk, rfl, HD, HB⟩ := hrel
            clear HD7 HB7
            by_cases hlt : k < rows.length
            · obtain ⟨rb, ro, rfl, hrb, ai, ci, hcell, hsl⟩ := rs_row (HS.out.later HB.out) hlt
              have hkz : (k : Int) < (rows.length : Int) := by omega
              have hl100 := H100.out _ (List.getElem_mem hlt)
              have hx : rows[k] = rows[k] := rfl
              have hkR := hlt
              obtain ⟨l, hl⟩ : ∃ l, l = rows[k] := ⟨_, rfl⟩
              have hx : rows[k] = l := hl.symm
              rw [← hl] at hcell hsl hl100
              clear hl
              obtain ⟨aw, haw⟩ : ∃ aw, aw = ai := ⟨_, rfl⟩
              obtain ⟨cw, hcw⟩ : ∃ cw, cw = ci := ⟨_, rfl⟩
              rw [← haw, ← hcw] at hcell hsl
              clear haw hcw
              have HSX : Hid (Sl wr aw cw l) := hsl
              have HD2 := HD
              have HB2 := HB
              clear hsl HD HB
              obtain ⟨wd, hwd⟩ : ∃ wd, wd = wr.drew := ⟨_, rfl⟩
              have HDd : Hid (Bd B wd b rows) := by rw [hwd]; exact HSL.out.keep HD2.out (Below.refl _ _).drew
              have HBd : Hid (Below w.heap.size w wd) := by rw [hwd]; exact HB2.out.drew
              have cvx : ∀ u : Up wd, (convert 34 9 (.slice aw l.length cw)).run Try.prog u.v = .ok (.string (strOf l)) u.v := fun u => conv_n (by
                have h : Sl wd aw cw l := by rw [hwd]; exact HSX.out.drew
                exact h.below (up_below u)) rfl
              have HCL := Lib.hid (HSL.out.slot B wd b k hkR l HDd.out hx)
              clear HD2 HB2 HSX
              go_wp2_with fail
              refine growK_begin 6 (fun w' => ∃ u : Up wd, w' = u.v) (by kernel_rfl) ?_
              rw [← hwd]
              clear hwd
              refine growK_take (by kernel_rfl) [0, 1, 4, 5] 3 _ _ (by kernel_rfl) _ (up_class (Fr.refl _ _)) ?_
              simp only [opsAt, List.getElem?_toArray, List.getElem?_cons_succ, List.getElem?_cons_zero]
              repeat (first | go_big_quiet_step (fail) | quiet_step (fail))
              refine wpQuiet_nil ?_
              clear cvx
              refine growK_one 2 (by kernel_rfl) (fun K hK => ?_)
              simp only [stepOf, List.getElem?_toArray, List.getElem?_cons_succ, List.getElem?_cons_zero]
              go_simp
              go_at_call 13
              (with_reducible refine HCL.out.mono ?_)
              rintro e w9 ⟨a9, c9, rfl, hs9, b9⟩
              have HD9 := Lib.hid (HSL.out.keep HDd.out b9)
              have HB9 := Lib.hid (HBd.out.trans (b9.mono HBd.out.size))
              have cv9 := conv_n hs9 rfl
              have fr9 : Fr (fun _ => False) wd w9 := Fr.of_below b9
              refine hK.out _ _ (up_class fr9) ?_
              clear hK K HCL hs9 b9 HDd HBd
              refine growK_one 3 (by kernel_rfl) (fun K hK => ?_)
              simp only [stepOf, List.getElem?_toArray, List.getElem?_cons_succ, List.getElem?_cons_zero]
              go_simp
              refine hK.out _ _ (up_class fr9) ?_
              clear hK K cv9
              refine growK_last (by kernel_rfl) (by kernel_rfl) (fun K hK => ?_)
              simp only [stepOf, List.getElem?_toArray, List.getElem?_cons_succ, List.getElem?_cons_zero]
              go_simp
              refine hK.out _ _ ?_
              clear hK K fr9
              go_wp2_with fail
              go_roundw
              case rel => exact ⟨k + 1, by omega, by go_num, HD9, HB9⟩
              case measure => simp [intOf]; omega
            · obtain rfl : k = rows.length := by omega
              go_wp2_with fail
              (with_reducible refine (HN1.out wr).mono ?_)
              rintro e x1 ⟨rfl, y1⟩
              have HX1 := Lib.hid (HB.out.trans (y1.mono HB.out.size))
              clear y1
              go_wp2_with fail
              (with_reducible refine (HN2.out x1).mono ?_)
              rintro e x2 ⟨rfl, y2⟩
              have HX2 := Lib.hid (HX1.out.trans (y2.mono HX1.out.size))
              clear y2
              go_wp2_with fail
              (with_reducible refine (HN3.out x2).mono ?_)
              rintro e x3 ⟨s3, k3, rfl, y3⟩
              have HX3 := Lib.hid (HX2.out.trans (y3.mono HX2.out.size))
              clear y3
              go_wp2_with fail
              go_ret
              exact ⟨rfl, HX3.out⟩
        · have h4 : t = f := by
            by_cases e : t = f
            · exact e
            · exact absurd ⟨⟨by omega, by omega⟩, ⟨by omega, by omega⟩, e⟩ hbad
          subst h4
          clear hbad
          have g_t : (0 : Int) ≤ t := by omega
          have d_t : decide ((0 : Int) ≤ t) = true := decide_eq_true g_t
          have k_t : t < (rows.length : Int) := by omega
          have e_t : decide (t < (rows.length : Int)) = true := decide_eq_true k_t
          have n_t : (t != t) = false := by simp
          go_enter Try.func4, Try.ntmps4
          go_wp2_with fail
          (with_reducible refine HA.out.mono ?_)
          rintro e w1 ⟨rfl, b1⟩
          have HB1 := Lib.hid b1
          have HF1 := Lib.hid (HFW.out w1 b1)
          have HNW := Lib.hid (HNB.out w1 b1)
          clear b1 HFW HA HNB
          go_wp2_with fail
          (with_reducible refine HF1.out.mono ?_)
          rintro e w2 ⟨rfl, rfl⟩
          clear HF1
          go_wp2_with fail
          (with_reducible refine HNW.out.mono ?_)
          rintro e w3 ⟨b, rfl, hbd, b3⟩
          have HB3 := Lib.hid (HB1.out.trans (b3.mono HB1.out.size))
          have HA3 := Lib.hid (HAL.out w3 HB3.out)
          have hsz1 := HB1.out.size
          obtain ⟨B, hB⟩ : ∃ B, B = w1.heap.size := ⟨_, rfl⟩
          have hBw : w.heap.size ≤ B := by omega
          rw [← hB] at hbd
          have HBD3 := Lib.hid hbd
          clear b3 HNW HAL hB hbd hsz1
          go_wp2_with fail
          (with_reducible refine HA3.out.mono ?_)
          rintro e w4 ⟨rfl, b4⟩
          have hbd4 := HSL.out.keep HBD3.out b4
          have HO4 := Lib.hid (HOP.out _ w4 b hbd4)
          have HB4 := Lib.hid (HB3.out.trans (b4.mono HB3.out.size))
          clear b4 hbd4 HBD3 HOP HA3
          go_wp2_with fail
          (with_reducible refine HO4.out.mono ?_)
          rintro e w5 ⟨rfl, hbd5, b5⟩
          have HB5 := Lib.hid (HB4.out.trans (b5.mono hBw))
          have HOV := Lib.hid (HSL.out.over B w5 b hbd5)
          have HD5 := Lib.hid hbd5
          clear b5 hbd5 HO4
          go_wp2_with fail
          (with_reducible refine HOV.out.mono ?_)
          rintro e w6 ⟨s1, k1, rfl, b6⟩
          have HD6 := Lib.hid (HSL.out.keep HD5.out b6)
          have HUN := Lib.hid (HSL.out.under B w6 b HD6.out)
          have HB6 := Lib.hid (HB5.out.trans (b6.mono HB5.out.size))
          clear b6 HOV HD5
          go_wp2_with fail
          (with_reducible refine HUN.out.mono ?_)
          rintro e w7 ⟨s2, k2, rfl, b7⟩
          have HD7 := Lib.hid (HSL.out.keep HD6.out b7)
          have HB7 := Lib.hid (HB6.out.trans (b7.mono HB6.out.size))
          clear b7 HUN HD6
          go_wp2_with fail
          go_loopw [106] (fun i wr => ∃ k : Nat, k ≤ rows.length ∧ i = .int .i64 k ∧ Hid (Bd B wr b rows) ∧ Hid (Below w.heap.size w wr)) (fun i _ => rows.length - (intOf i).toNat)
          case atStart => exact ⟨0, by omega, rfl, HD7, HB7⟩
          case round =>
            obtain ⟨k, hk, rfl, HD, HB⟩ := hrel
            clear HD7 HB7
            by_cases hlt : k < rows.length
            · obtain ⟨rb, ro, rfl, hrb, ai, ci, hcell, hsl⟩ := rs_row (HS.out.later HB.out) hlt
              have hkz : (k : Int) < (rows.length : Int) := by omega
              have hl100 := H100.out _ (List.getElem_mem hlt)
              have hx : rows[k] = rows[k] := rfl
              have hkR := hlt
              obtain ⟨l, hl⟩ : ∃ l, l = rows[k] := ⟨_, rfl⟩
              have hx : rows[k] = l := hl.symm
              rw [← hl] at hcell hsl hl100
              clear hl
              obtain ⟨aw, haw⟩ : ∃ aw, aw = ai := ⟨_, rfl⟩
              obtain ⟨cw, hcw⟩ : ∃ cw, cw = ci := ⟨_, rfl⟩
              rw [← haw, ← hcw] at hcell hsl
              clear haw hcw
              have HSX : Hid (Sl wr aw cw l) := hsl
              have HD2 := HD
              have HB2 := HB
              clear hsl HD HB
              obtain ⟨wd, hwd⟩ : ∃ wd, wd = wr.drew := ⟨_, rfl⟩
              have HDd : Hid (Bd B wd b rows) := by rw [hwd]; exact HSL.out.keep HD2.out (Below.refl _ _).drew
              have HBd : Hid (Below w.heap.size w wd) := by rw [hwd]; exact HB2.out.drew
              have cvx : ∀ u : Up wd, (convert 34 9 (.slice aw l.length cw)).run Try.prog u.v = .ok (.string (strOf l)) u.v := fun u => conv_n (by
                have h : Sl wd aw cw l := by rw [hwd]; exact HSX.out.drew
                exact h.below (up_below u)) rfl
              have HCL := Lib.hid (HSL.out.slot B wd b k hkR l HDd.out hx)
              clear HD2 HB2 HSX
              go_wp2_with fail
              refine growK_begin 6 (fun w' => ∃ u : Up wd, w' = u.v) (by kernel_rfl) ?_
              rw [← hwd]
              clear hwd
              refine growK_take (by kernel_rfl) [0, 1, 4, 5] 3 _ _ (by kernel_rfl) _ (up_class (Fr.refl _ _)) ?_
              simp only [opsAt, List.getElem?_toArray, List.getElem?_cons_succ, List.getElem?_cons_zero]
              repeat (first | go_big_quiet_step (fail) | quiet_step (fail))
              refine wpQuiet_nil ?_
              clear cvx
              refine growK_one 2 (by kernel_rfl) (fun K hK => ?_)
              simp only [stepOf, List.getElem?_toArray, List.getElem?_cons_succ, List.getElem?_cons_zero]
              go_simp
              go_at_call 13
              (with_reducible refine HCL.out.mono ?_)
              rintro e w9 ⟨a9, c9, rfl, hs9, b9⟩
              have HD9 := Lib.hid (HSL.out.keep HDd.out b9)
              have HB9 := Lib.hid (HBd.out.trans (b9.mono HBd.out.size))
              have cv9 := conv_n hs9 rfl
              have fr9 : Fr (fun _ => False) wd w9 := Fr.of_below b9
              refine hK.out _ _ (up_class fr9) ?_
              clear hK K HCL hs9 b9 HDd HBd
              refine growK_one 3 (by kernel_rfl) (fun K hK => ?_)
              simp only [stepOf, List.getElem?_toArray, List.getElem?_cons_succ, List.getElem?_cons_zero]
              go_simp
              refine hK.out _ _ (up_class fr9) ?_
              clear hK K cv9
              refine growK_last (by kernel_rfl) (by kernel_rfl) (fun K hK => ?_)
              simp only [stepOf, List.getElem?_toArray, List.getElem?_cons_succ, List.getElem?_cons_zero]
              go_simp
              refine hK.out _ _ ?_
              clear hK K fr9
              go_wp2_with fail
              go_roundw
              case rel => exact ⟨k + 1, by omega, by go_num, HD9, HB9⟩
              case measure => simp [intOf]; omega
            · obtain rfl : k = rows.length := by omega
              go_wp2_with fail
              (with_reducible refine (HN1.out wr).mono ?_)
              rintro e x1 ⟨rfl, y1⟩
              have HX1 := Lib.hid (HB.out.trans (y1.mono HB.out.size))
              clear y1
              go_wp2_with fail
              (with_reducible refine (HN2.out x1).mono ?_)
              rintro e x2 ⟨rfl, y2⟩
              have HX2 := Lib.hid (HX1.out.trans (y2.mono HX1.out.size))
              clear y2
              go_wp2_with fail
              (with_reducible refine (HN3.out x2).mono ?_)
              rintro e x3 ⟨s3, k3, rfl, y3⟩
              have HX3 := Lib.hid (HX2.out.trans (y3.mono HX2.out.size))
              clear y3
              go_wp2_with fail
              go_ret
              exact ⟨rfl, HX3.out⟩
end Go.Proofs.Ytahkjimbmapofaa
