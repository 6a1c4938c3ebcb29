/-
  The law ReplayBoards, out of what package replay answers: what is done, and the slots behind it.
-/
import Derived.Test.YtahkjimbmapofaaRpC
namespace Go.Proofs.Ytahkjimbmapofaa
open Go.ChangeShapes Go.WideShapes Go.ChangeAt Go.RowKit Go.Joins
set_option linter.unusedVariables false

theorem up_below {W : World} (u : Up W) : Below W.heap.size W u.v := u.h.below (Nat.le_refl _) fun _ _ h => h
/-- What the law asks of a board's slots, told: the slots are R. -/
structure Slots (Bd : Nat → World → Nat → Rws → Prop) (R : Rws) : Prop where
  keep : ∀ {B : Nat} {w w' : World} {b : Nat}, Bd B w b R → Below w.heap.size w w' → Bd B w' b R
  slot : ∀ (B : Nat) (w : World) (b : Nat) (i : Nat) (h : i < R.length) (x : List Nat), Bd B w b R → R[i] = x → Calls Try.prog 13 #[.pointer (some ⟨b, 0, none⟩), .int .i64 (i : Int)] w fun e w' => ∃ sa sc, e = .returned (.slice sa x.length sc) ∧ Sl w' sa sc x ∧ Below w.heap.size w w'
  over : ∀ (B : Nat) (w : World) (b : Nat), Bd B w b R → Calls Try.prog 13 #[.pointer (some ⟨b, 0, none⟩), .int .i64 (R.length : Int)] w fun e w' => ∃ sa sc, e = .returned (.slice sa 0 sc) ∧ Below w.heap.size w w'
  under : ∀ (B : Nat) (w : World) (b : Nat), Bd B w b R → Calls Try.prog 13 #[.pointer (some ⟨b, 0, none⟩), .int .i64 (-1)] w fun e w' => ∃ sa sc, e = .returned (.slice sa 0 sc) ∧ Below w.heap.size w w'
theorem RepC.slots {Bd : Nat → World → Nat → Rws → Prop} (HC : RepC Bd) {R : Rws} (hF : fewC R = true) : Slots Bd R := by
  have h40 := (fewC_iff.1 hF).1
  refine ⟨fun h k => HC.keep h k, fun B w b i h x hb e => ?_, fun B w b hb => HC.slotBad B w b R _ hb hF (by omega) (by unfold inS; omega), fun B w b hb => HC.slotBad B w b R _ hb hF (by omega) (by unfold inS; omega)⟩
  subst e
  exact HC.slot B w b R i h hb hF
theorem fewC_set {R : Rws} (hF : fewC R = true) {t : Nat} {x : List Nat} (hx : x.length ≤ 100) : fewC (R.set t x) = true := by
  rw [fewC_iff] at hF ⊢
  refine ⟨by rw [List.length_set]; exact hF.1, fun y hy => ?_⟩
  rcases List.mem_or_eq_of_mem_set hy with h | h
  · exact hF.2 y h
  · rw [h]; exact hx

set_option maxRecDepth 1000000 in
set_option maxHeartbeats 8000000 in
theorem boards_scale {Bd : Nat → World → Nat → Rws → Prop} (HC : RepC Bd) (a : Option Addr) (cap : Nat) (rows : Rws) (t : Nat) (f : Int) (hf : -9223372036854775808 ≤ f ∧ f ≤ 9223372036854775807) (c : Nat) (hc : c < 256) (w : World) (hs : Rs w.heap.size w a cap rows) (hF : fewC rows = true) (hA : alikeB rows = true) (ht : t < rows.length) :
    Calls Try.prog 4 #[.slice a rows.length cap, .int .i64 (t : Int), .int .i64 f, .int .u8 (c : Int), .bool true] w (TrueAnd w) := by
  have h40 := (fewC_iff.1 hF).1
  have h100 := (fewC_iff.1 hF).2
  have HA : Hid (Calls Try.prog 5 #[] w fun e w' => e = .returned (.bool true) ∧ Below w.heap.size w w') := awake12_any HC w
  have HS := Lib.hid hs
  have HFW : Hid (∀ w', Below w.heap.size w w' → Calls Try.prog 6 #[.slice a rows.length cap] w' fun e w'' => e = .returned (.bool true) ∧ w' = w'') := fun w' k => by
    have h := few12_any _ a cap rows w' (HS.out.later k)
    rw [hF] at h; exact h
  have HAL : Hid (∀ w', Below w.heap.size w w' → Calls Try.prog 8 #[.slice a rows.length cap] w' fun e w'' => e = .returned (.bool true) ∧ Below w'.heap.size w' w'') := fun w' k => by
    have h := alike_any _ a cap rows w' (Nat.le_refl _) (HS.out.later k)
    rw [hA] at h; exact h
  have HNB : Hid (∀ w', Below w.heap.size w w' → Calls Try.prog 10 #[.slice a rows.length cap] w' fun e w'' => ∃ b, e = .returned (.tuple #[.pointer (some ⟨b, 0, none⟩), .int .i64 0]) ∧ Bd w'.heap.size w'' b rows ∧ Below w'.heap.size w' w'') := fun w' k => HC.new a cap rows w' (HS.out.later k) hF hA
  obtain ⟨R, hR⟩ : ∃ R, R = rows.set t (scaleN rows[t] c) := ⟨_, rfl⟩
  have hRl : R.length = rows.length := by rw [hR, List.length_set]
  have hRF : fewC R = true := by rw [hR]; exact fewC_set hF (by rw [scaleN_len]; exact h100 _ (List.getElem_mem ht))
  have hRt : ∀ (h : t < R.length), R[t] = scaleN rows[t] c := fun h => by simp only [hR, List.getElem_set_self]
  have hRo : ∀ (i : Nat) (h : i < R.length) (h2 : i < rows.length), i ≠ t → R[i] = rows[i] := fun i h h2 hne => by simp only [hR]; exact List.getElem_set_ne (Ne.symm hne) _
  have HOP : Hid (∀ B w b, Bd B w b rows → Calls Try.prog 11 #[.pointer (some ⟨b, 0, none⟩), .int .i64 (t : Int), .int .u8 (c : Int)] w fun e w' => e = .returned (.int .i64 0) ∧ Bd B w' b R ∧ Below B w w') := fun B w b hb => by
    have h := HC.scale B w b rows t c hb hF ht hc
    rw [getR ht, ← hR] at h
    exact h
  have HSL := Lib.hid (HC.slots hRF)
  have HN1 : Hid (∀ w, Calls Try.prog 12 #[.pointer none, .int .i64 (t : Int), .int .i64 f, .int .u8 (c : Int)] w fun e w' => e = .returned (.int .i64 1) ∧ Below w.heap.size w w') := fun w => HC.nilAdd w _ f c (by omega) hf hc
  have HN2 : Hid (∀ w, Calls Try.prog 11 #[.pointer none, .int .i64 (t : Int), .int .u8 (c : Int)] w fun e w' => e = .returned (.int .i64 1) ∧ Below w.heap.size w w') := fun w => HC.nilScale w _ c (by omega) hc
  have HN3 : Hid (∀ w, Calls Try.prog 13 #[.pointer none, .int .i64 (t : Int)] w fun e w' => ∃ sa sc, e = .returned (.slice sa 0 sc) ∧ Below w.heap.size w w') := fun w => HC.nilSlot w _ (by omega)
  have HKP : Hid (∀ {B w w' b}, Bd B w b rows → Below w.heap.size w w' → Bd B w' b rows) := fun h k => HC.keep h k
  have HRT := Lib.hid hRt
  have HRO := Lib.hid hRo
  have HRL := Lib.hid hRl
  have H100 := Lib.hid h100
  have htz : (t : Int) < (rows.length : Int) := by omega
  have HBS : Hid (∀ {B w b} , Bd B w b R → B ≤ w.heap.size) := fun h => HC.base h
  clear HC hs hF hA hR hRl hRF hRt hRo h100
  go_enter Try.func4, Try.ntmps4
  go_wp2_with fail
  (with_reducible refine HA.out.mono ?_)
  rintro e w1 ⟨rfl, b1⟩
  have HB1 := Lib.hid b1
  have HF1 := Lib.hid (HFW.out w1 b1)
  have HNW := Lib.hid (HNB.out w1 b1)
  clear b1 HFW HA HNB
  go_wp2_with fail
  (with_reducible refine HF1.out.mono ?_)
  rintro e w2 ⟨rfl, rfl⟩
  clear HF1
  go_wp2_with fail
  (with_reducible refine HNW.out.mono ?_)
  rintro e w3 ⟨b, rfl, hbd, b3⟩
  have HB3 := Lib.hid (HB1.out.trans (b3.mono HB1.out.size))
  have HA3 := Lib.hid (HAL.out w3 HB3.out)
  have hsz1 := HB1.out.size
  obtain ⟨B, hB⟩ : ∃ B, B = w1.heap.size := ⟨_, rfl⟩
  have hBw : w.heap.size ≤ B := by omega
  rw [← hB] at hbd
  have HBD3 := Lib.hid hbd
  clear b3 HNW HAL hB hbd hsz1
  go_wp2_with fail
  (with_reducible refine HA3.out.mono ?_)
  rintro e w4 ⟨rfl, b4⟩
  have hbd4 := HKP.out HBD3.out b4
  have HO4 := Lib.hid (HOP.out _ w4 b hbd4)
  have HB4 := Lib.hid (HB3.out.trans (b4.mono HB3.out.size))
  clear b4 hbd4 HBD3 HOP HA3 HKP
  go_wp2_with fail
  (with_reducible refine HO4.out.mono ?_)
  rintro e w5 ⟨rfl, hbd5, b5⟩
  have HB5 := Lib.hid (HB4.out.trans (b5.mono hBw))
  have hov := HSL.out.over B w5 b hbd5
  rw [HRL.out] at hov
  have HOV := Lib.hid hov
  have HD5 := Lib.hid hbd5
  clear b5 hov hbd5 HO4
  go_wp2_with fail
  (with_reducible refine HOV.out.mono ?_)
  rintro e w6 ⟨s1, k1, rfl, b6⟩
  have HD6 := Lib.hid (HSL.out.keep HD5.out b6)
  have HUN := Lib.hid (HSL.out.under B w6 b HD6.out)
  have HB6 := Lib.hid (HB5.out.trans (b6.mono HB5.out.size))
  clear b6 HOV HD5
  go_wp2_with fail
  (with_reducible refine HUN.out.mono ?_)
  rintro e w7 ⟨s2, k2, rfl, b7⟩
  have HD7 := Lib.hid (HSL.out.keep HD6.out b7)
  have HB7 := Lib.hid (HB6.out.trans (b7.mono HB6.out.size))
  clear b7 HUN HD6
  go_wp2_with fail
  go_loopw [106] (fun i wr => ∃ k : Nat, k ≤ rows.length ∧ i = .int .i64 k ∧ Hid (Bd B wr b R) ∧ Hid (Below w.heap.size w wr)) (fun i _ => rows.length - (intOf i).toNat)
  case atStart => exact ⟨0, by omega, rfl, HD7, HB7⟩
  case round =>
    obtain ⟨k, hk, rfl, HD, HB⟩ := hrel
    clear HD7 HB7
    by_cases hlt : k < rows.length
    · obtain ⟨rb, ro, rfl, hrb, ai, ci, hcell, hsl⟩ := rs_row (HS.out.later HB.out) hlt
      have hkz : (k : Int) < (rows.length : Int) := by omega
      have hkR : k < R.length := by rw [HRL.out]; exact hlt
      have hl100 := H100.out _ (List.getElem_mem hlt)
      by_cases hkt : k = t
      · subst hkt
        have hx := HRT.out hkR
        have hmk := make_row rows[k].length (by omega)
        obtain ⟨l, hl⟩ : ∃ l, l = rows[k] := ⟨_, rfl⟩
        rw [← hl] at hcell hsl hx hmk hl100
        clear hl
        have hlb := hsl.byte
        obtain ⟨W1, rfl⟩ : ∃ z, z = wr := ⟨_, rfl⟩
        have hAL : Below W1.heap.size W1 (W1.alloc (.cells (rowArr l.length zV) 5)) := (Below.refl _ _).alloc (Nat.le_refl _) _
        have hpl := plus_any (some ⟨W1.heap.size, 0, none⟩) ai l.length ci (List.replicate l.length 0) l c (W1.alloc (.cells (rowArr l.length zV) 5)) (by omega) hc (by simp) (zero_row W1 l.length (by omega)) (hsl.below hAL)
        rw [List.length_replicate, plus_zeros] at hpl
        have HPL := Lib.hid hpl
        have HAL2 := Lib.hid hAL
        clear hsl hpl hAL
        go_wp2_with fail
        (with_reducible refine HPL.out.mono ?_)
        rintro e w8 ⟨rfl, hnt⟩
        have HB2 := Lib.hid (HB.out.trans ((HAL2.out.trans (hnt.below.mono HAL2.out.size)).mono HB.out.size))
        have HD2 := Lib.hid (HSL.out.keep (HSL.out.keep HD.out HAL2.out) hnt.below)
        obtain ⟨x, hxx⟩ : ∃ x, x = scaleN l c := ⟨_, rfl⟩
        have hxl : x.length = l.length := by rw [hxx, scaleN_len]
        have hxb : IsByte x := by rw [hxx]; exact scaleN_byte l c hlb
        obtain ⟨aw, haw⟩ : ∃ aw, aw = some (⟨(W1.alloc (.cells (rowArr l.length zV) 5)).heap.size, 0, none⟩ : Addr) := ⟨_, rfl⟩
        rw [← hxx] at hnt hx
        have HSX : Hid (Sl w8 aw x.length x) := by
          have h : NewTo (W1.alloc (.cells (rowArr l.length zV) 5)) w8 x x.length := by rw [hxl]; exact hnt
          rw [haw]
          exact h.sl hxb (by omega)
        rw [← haw, ← hxl]
        clear hnt HPL HAL2 haw hxx hmk hcell hlb HD HB hxl
        obtain ⟨wd, hwd⟩ : ∃ wd, wd = w8.drew := ⟨_, rfl⟩
        have HDd : Hid (Bd B wd b R) := by rw [hwd]; exact HSL.out.keep HD2.out (Below.refl _ _).drew
        have HBd : Hid (Below w.heap.size w wd) := by rw [hwd]; exact HB2.out.drew
        have cvx : ∀ u : Up wd, (convert 34 9 (.slice aw x.length x.length)).run Try.prog u.v = .ok (.string (strOf x)) u.v := fun u => conv_n (by
          have h : Sl wd aw x.length x := by rw [hwd]; exact HSX.out.drew
          exact h.below (up_below u)) rfl
        have HCL := Lib.hid (HSL.out.slot B wd b k hkR x HDd.out hx)
        clear HD2 HB2 HSX
        go_wp2_with fail
        refine growK_begin 6 (fun w' => ∃ u : Up wd, w' = u.v) (by kernel_rfl) ?_
        rw [← hwd]
        clear hwd
        refine growK_take (by kernel_rfl) [0, 1, 4, 5] 3 _ _ (by kernel_rfl) _ (up_class (Fr.refl _ _)) ?_
        simp only [opsAt, List.getElem?_toArray, List.getElem?_cons_succ, List.getElem?_cons_zero]
        repeat (first | go_big_quiet_step (fail) | quiet_step (fail))
        refine wpQuiet_nil ?_
        clear cvx
        refine growK_one 2 (by kernel_rfl) (fun K hK => ?_)
        simp only [stepOf, List.getElem?_toArray, List.getElem?_cons_succ, List.getElem?_cons_zero]
        go_simp
        go_at_call 13
        (with_reducible refine HCL.out.mono ?_)
        rintro e w9 ⟨a9, c9, rfl, hs9, b9⟩
        have HD9 := Lib.hid (HSL.out.keep HDd.out b9)
        have HB9 := Lib.hid (HBd.out.trans (b9.mono HBd.out.size))
        have cv9 := conv_n hs9 rfl
        have fr9 : Fr (fun _ => False) wd w9 := Fr.of_below b9
        refine hK.out _ _ (up_class fr9) ?_
        clear hK K HCL hs9 b9 HDd HBd
        refine growK_one 3 (by kernel_rfl) (fun K hK => ?_)
        simp only [stepOf, List.getElem?_toArray, List.getElem?_cons_succ, List.getElem?_cons_zero]
        go_simp
        refine hK.out _ _ (up_class fr9) ?_
        clear hK K cv9
        refine growK_last (by kernel_rfl) (by kernel_rfl) (fun K hK => ?_)
        simp only [stepOf, List.getElem?_toArray, List.getElem?_cons_succ, List.getElem?_cons_zero]
        go_simp
        refine hK.out _ _ ?_
        clear hK K fr9
        go_wp2_with fail
        go_roundw
        case rel => exact ⟨k + 1, by omega, by go_num, HD9, HB9⟩
        case measure => simp [intOf]; omega
      · have hx := HRO.out k hkR hlt hkt
        obtain ⟨l, hl⟩ : ∃ l, l = rows[k] := ⟨_, rfl⟩
        rw [← hl] at hcell hsl hx hl100
        clear hl
        have hkb : ((k : Int) == (t : Int)) = false := by simp; omega
        have hkb2 : ((k : Int) = (t : Int)) = False := by simp; omega
        obtain ⟨aw, haw⟩ : ∃ aw, aw = ai := ⟨_, rfl⟩
        obtain ⟨cw, hcw⟩ : ∃ cw, cw = ci := ⟨_, rfl⟩
        rw [← haw, ← hcw] at hcell hsl
        clear haw hcw
        have HSX : Hid (Sl wr aw cw l) := hsl
        have HD2 := HD
        have HB2 := HB
        clear hsl HD HB hkt
        obtain ⟨wd, hwd⟩ : ∃ wd, wd = wr.drew := ⟨_, rfl⟩
        have HDd : Hid (Bd B wd b R) := by rw [hwd]; exact HSL.out.keep HD2.out (Below.refl _ _).drew
        have HBd : Hid (Below w.heap.size w wd) := by rw [hwd]; exact HB2.out.drew
        have cvx : ∀ u : Up wd, (convert 34 9 (.slice aw l.length cw)).run Try.prog u.v = .ok (.string (strOf l)) u.v := fun u => conv_n (by
          have h : Sl wd aw cw l := by rw [hwd]; exact HSX.out.drew
          exact h.below (up_below u)) rfl
        have HCL := Lib.hid (HSL.out.slot B wd b k hkR l HDd.out hx)
        clear HD2 HB2 HSX
        go_wp2_with fail
        refine growK_begin 6 (fun w' => ∃ u : Up wd, w' = u.v) (by kernel_rfl) ?_
        rw [← hwd]
        clear hwd
        refine growK_take (by kernel_rfl) [0, 1, 4, 5] 3 _ _ (by kernel_rfl) _ (up_class (Fr.refl _ _)) ?_
        simp only [opsAt, List.getElem?_toArray, List.getElem?_cons_succ, List.getElem?_cons_zero]
        repeat (first | go_big_quiet_step (fail) | quiet_step (fail))
        refine wpQuiet_nil ?_
        clear cvx
        refine growK_one 2 (by kernel_rfl) (fun K hK => ?_)
        simp only [stepOf, List.getElem?_toArray, List.getElem?_cons_succ, List.getElem?_cons_zero]
        go_simp
        go_at_call 13
        (with_reducible refine HCL.out.mono ?_)
        rintro e w9 ⟨a9, c9, rfl, hs9, b9⟩
        have HD9 := Lib.hid (HSL.out.keep HDd.out b9)
        have HB9 := Lib.hid (HBd.out.trans (b9.mono HBd.out.size))
        have cv9 := conv_n hs9 rfl
        have fr9 : Fr (fun _ => False) wd w9 := Fr.of_below b9
        refine hK.out _ _ (up_class fr9) ?_
        clear hK K HCL hs9 b9 HDd HBd
        refine growK_one 3 (by kernel_rfl) (fun K hK => ?_)
        simp only [stepOf, List.getElem?_toArray, List.getElem?_cons_succ, List.getElem?_cons_zero]
        go_simp
        refine hK.out _ _ (up_class fr9) ?_
        clear hK K cv9
        refine growK_last (by kernel_rfl) (by kernel_rfl) (fun K hK => ?_)
        simp only [stepOf, List.getElem?_toArray, List.getElem?_cons_succ, List.getElem?_cons_zero]
        go_simp
        refine hK.out _ _ ?_
        clear hK K fr9
        go_wp2_with fail
        go_roundw
        case rel => exact ⟨k + 1, by omega, by go_num, HD9, HB9⟩
        case measure => simp [intOf]; omega
    · obtain rfl : k = rows.length := by omega
      go_wp2_with fail
      (with_reducible refine (HN1.out wr).mono ?_)
      rintro e x1 ⟨rfl, y1⟩
      have HX1 := Lib.hid (HB.out.trans (y1.mono HB.out.size))
      clear y1
      go_wp2_with fail
      (with_reducible refine (HN2.out x1).mono ?_)
      rintro e x2 ⟨rfl, y2⟩
      have HX2 := Lib.hid (HX1.out.trans (y2.mono HX1.out.size))
      clear y2
      go_wp2_with fail
      (with_reducible refine (HN3.out x2).mono ?_)
      rintro e x3 ⟨s3, k3, rfl, y3⟩
      have HX3 := Lib.hid (HX2.out.trans (y3.mono HX2.out.size))
      clear y3
      go_wp2_with fail
      go_ret
      exact ⟨rfl, HX3.out⟩
end Go.Proofs.Ytahkjimbmapofaa
