/-
  The law ReplayPlays, out of what package replay answers: what the law doesn't let go.
-/
import Derived.Test.YtahkjimbmapofaaRpQ
import Derived.Test.YtahkjimbmapofaaRpD
import Derived.Deep.DeepCutAuto
import Derived.Deep.CutBlock
namespace Go.Proofs.Ytahkjimbmapofaa
open Go.ChangeShapes Go.WideShapes Go.ChangeAt Go.RowKit Go.Joins
set_option linter.unusedVariables false

/-- So many rows of one length. -/
structure Even (m L : Nat) (X : Rws) : Prop where
  rows : X.length = m
  len : ∀ x ∈ X, x.length = L
  byte : ∀ x ∈ X, IsByte x
theorem Even.deed {m L : Nat} {X : Rws} (h : Even m L X) {d : Int × Int × Nat} (h1 : inS m d.1) (h2 : inS m d.2.1) : Even m L (deedR X d) := by
  have a1 : d.1.toNat < X.length := by have := h1.2; have := h1.1; rw [h.rows]; omega
  have a2 : d.2.1.toNat < X.length := by have := h2.2; have := h2.1; rw [h.rows]; omega
  have key : ∀ y : List Nat, y.length = L → IsByte y → Even m L (X.set d.1.toNat y) := fun y q1 q2 => by
    refine ⟨by rw [List.length_set]; exact h.rows, fun x hx => ?_, fun x hx => ?_⟩
    · rcases List.mem_or_eq_of_mem_set hx with k | k
      · exact h.len x k
      · rw [k]; exact q1
    · rcases List.mem_or_eq_of_mem_set hx with k | k
      · exact h.byte x k
      · rw [k]; exact q2
  have l1 := h.len _ (List.getElem_mem a1)
  have l2 := h.len _ (List.getElem_mem a2)
  have b1 := h.byte _ (List.getElem_mem a1)
  have b2 := h.byte _ (List.getElem_mem a2)
  unfold deedR
  rw [getR a1, getR a2]
  split
  · exact key _ (by rw [scaleN_len]; exact l1) (scaleN_byte _ _ b1)
  · exact key _ (by rw [plusN_len _ _ _ (by omega)]; exact l1) (plusN_byte _ _ _ b1 b2)
theorem playR_next {D : Dk} {rows : Rws} {k : Nat} (h : k < D.length) : playR (D.take (k + 1)) rows = deedR (playR (D.take k) rows) D[k] := by
  unfold playR
  rw [List.take_succ_eq_append_getElem h, List.foldl_append]
  rfl
theorem playR_even {m L : Nat} {D : Dk} {rows : Rws} (hr : Even m L rows) : ∀ k, k ≤ D.length → deedsIn m (D.take k) → Even m L (playR (D.take k) rows)
  | 0, _, _ => hr
  | k + 1, hk, hd => by
    have ht : D.take (k + 1) = D.take k ++ [D[k]] := List.take_succ_eq_append_getElem (by omega)
    rw [playR_next (by omega)]
    have h1 := hd D[k] (by rw [ht]; exact List.mem_append_right _ (by simp))
    exact (playR_even hr k (by omega) fun d hd' => hd d (by rw [ht]; exact List.mem_append_left _ hd')).deed h1.1 h1.2
theorem deedsIn_next {m : Nat} {D : Dk} {k : Nat} (h : k < D.length) (h1 : deedsIn m (D.take k)) (h2 : inS m D[k].1 ∧ inS m D[k].2.1) : deedsIn m (D.take (k + 1)) := fun d hd => by
  rw [List.take_succ_eq_append_getElem h] at hd
  rcases List.mem_append.1 hd with hd | hd
  · exact h1 d hd
  · rw [List.mem_singleton.1 hd]; exact h2
theorem slotsIn_next {m : Nat} {Wh : List Int} {k : Nat} (h : k < Wh.length) : slotsIn m (Wh.take (k + 1)) ↔ slotsIn m (Wh.take k) ∧ inS m Wh[k] := by
  have ht : Wh.take (k + 1) = Wh.take k ++ [Wh[k]] := List.take_succ_eq_append_getElem h
  unfold slotsIn
  rw [ht]
  exact ⟨fun q => ⟨fun x hx => q x (List.mem_append_left _ hx), q _ (List.mem_append_right _ (by simp))⟩, fun q x hx => (List.mem_append.1 hx).elim (q.1 x) fun e => by rw [List.mem_singleton.1 e]; exact q.2⟩
/-- What Play has answered. -/
def Played (good : Prop) (oa : Option Addr) (ol oc : Nat) (ev : Int) (n : Nat) (res : Rws) (w : World) : Prop :=
  (good ∧ ev = 0 ∧ ol = n ∧ Rs w.heap.size w oa oc res) ∨ (¬ good ∧ ev = 1 ∧ ol = 0)

set_option maxRecDepth 1000000 in
set_option maxHeartbeats 16000000 in
theorem plays_in {Bd : Nat → World → Nat → Rws → Prop} (HC : RepC Bd) (HP : PlayC) (da : Option Addr) (dc : Nat) (D : Dk) (wa : Option Addr) (wc : Nat) (Wh : List Int) (a : Option Addr) (cap : Nat) (rows : Rws) (w : World) (hD : Dri w da dc D) (hW : Is w wa wc Wh) (hs : Rs w.heap.size w a cap rows) (hnil : a = none → cap = 0)
    (hF : fewC rows = true) (hd : D.length ≤ 200) (hw : Wh.length ≤ 100) :
    Calls Try.prog 3 #[.agg #[.slice da D.length dc, .slice wa Wh.length wc], .slice a rows.length cap] w (TrueAnd w) := by
  have h40 := (fewC_iff.1 hF).1
  have h100 := (fewC_iff.1 hF).2
  have HA : Hid (∀ w, Calls Try.prog 5 #[] w fun e w' => e = .returned (.bool true) ∧ Below w.heap.size w w') := fun w => awake12_any HC w
  have HS := Lib.hid hs
  have HD := Lib.hid hD
  have HW := Lib.hid hW
  have hB0 : Below w.heap.size w (w.alloc (.cells #[.slice da D.length dc, .slice wa Wh.length wc] 25)) := (Below.refl _ _).alloc (Nat.le_refl _) _
  have hbx : (w.alloc (.cells #[.slice da D.length dc, .slice wa Wh.length wc] 25)).heap[w.heap.size]? = some (.cells #[.slice da D.length dc, .slice wa Wh.length wc] 25 (0, 0)) := heap_alloc_last w _
  have hsz0 : w.heap.size < (w.alloc (.cells #[.slice da D.length dc, .slice wa Wh.length wc] 25)).heap.size := by simp
  have HFW : Hid (∀ w', Below w.heap.size w w' → Calls Try.prog 6 #[.slice a rows.length cap] w' fun e w'' => e = .returned (.bool true) ∧ w' = w'') := fun w' k => by
    have h := few12_any _ a cap rows w' (HS.out.later k)
    rw [hF] at h; exact h
  obtain ⟨A, hA⟩ : ∃ A, A = alikeB rows := ⟨_, rfl⟩
  have HAL : Hid (∀ w', Below w.heap.size w w' → Calls Try.prog 8 #[.slice a rows.length cap] w' fun e w'' => e = .returned (.bool A) ∧ Below w'.heap.size w' w'') := fun w' k => by
    have h := alike_any _ a cap rows w' (Nat.le_refl _) (HS.out.later k)
    rw [← hA] at h; exact h
  obtain ⟨res, hres⟩ : ∃ res, res = Wh.map fun x => (playR D rows).getD x.toNat [] := ⟨_, rfl⟩
  have HPL : Hid (∀ w', Below w.heap.size w w' → Calls Try.prog 7 #[.agg #[.slice da D.length dc, .slice wa Wh.length wc], .slice a rows.length cap] w' fun e w'' => ∃ oa ol oc ev, e = .returned (.tuple #[.slice oa ol oc, .int .i64 ev]) ∧ Played (A = true ∧ deedsIn rows.length D ∧ slotsIn rows.length Wh) oa ol oc ev Wh.length res w'' ∧ Below w'.heap.size w' w'') := fun w' k => by
    have k0 := (Below.refl w.heap.size w).trans k
    by_cases hg : A = true ∧ deedsIn rows.length D ∧ slotsIn rows.length Wh
    · refine (HP.good da dc D wa wc Wh a cap rows w' (HD.out.below k) (HW.out.below k) (HS.out.later k) hF hd hw (by rw [← hA]; exact hg.1) hg.2.1 hg.2.2).mono ?_
      rintro e w'' ⟨oa, oc, rfl, h1, h2⟩
      exact ⟨oa, _, oc, 0, rfl, .inl ⟨hg, rfl, rfl, by rw [hres]; exact h1⟩, h2⟩
    · refine (HP.bad da dc D wa wc Wh a cap rows w' (HD.out.below k) (HW.out.below k) (HS.out.later k) hF hd hw fun h => hg ⟨by rw [hA]; exact h.1, h.2⟩).mono ?_
      rintro e w'' ⟨oa, oc, rfl, h2⟩
      exact ⟨oa, 0, oc, 1, rfl, .inr ⟨hg, rfl, rfl⟩, h2⟩
  obtain ⟨L, hL⟩ : ∃ L, L = (rows.getD 0 []).length := ⟨_, rfl⟩
  have HEV : Hid (A = true → Even rows.length L rows) := fun e => ⟨rfl, fun x hx => by rw [hL]; exact alikeB_iff.1 (by rw [← hA]; exact e) x hx, hs.byte⟩
  have hL100 : L ≤ 100 := by
    rw [hL]
    by_cases h0 : 0 < rows.length
    · rw [getR h0]; exact h100 _ (List.getElem_mem h0)
    · simp [List.getD, List.getElem?_eq_none (show rows.length ≤ 0 by omega)]
  have HRES := Lib.hid hres
  have HB0 := Lib.hid hB0
  have HBX := Lib.hid hbx
  have HNIL := Lib.hid hnil
  have hD1 := hD.len
  have hD2 := hD.most
  have hW1 := hW.len
  have hW2 := hW.most
  unfold maxLen at hD2 hW2
  have hdz : ¬ (200 : Int) < (D.length : Int) := by omega
  have hdb : decide ((200 : Int) < (D.length : Int)) = false := decide_eq_false hdz
  have hwz : ¬ (100 : Int) < (Wh.length : Int) := by omega
  have hwb : decide ((100 : Int) < (Wh.length : Int)) = false := decide_eq_false hwz
  clear HC HP hs hB0 hbx hF hA hD hW hL hres h100 hnil
  go_enter Try.func3, Try.ntmps3
  go_wp2_with fail
  obtain ⟨W0, hW0⟩ : ∃ W0, W0 = w.alloc (.cells #[.slice da D.length dc, .slice wa Wh.length wc] 25) := ⟨_, rfl⟩
  rw [← hW0] at HB0 HBX hsz0 ⊢
  clear hW0
  obtain ⟨sb, hsb⟩ : ∃ sb, sb = w.heap.size := ⟨_, rfl⟩
  have hsbw : w.heap.size ≤ sb := by omega
  have hsbw2 : sb ≤ w.heap.size := by omega
  rw [← hsb] at HBX hsz0 ⊢
  clear hsb
  (with_reducible refine (HA.out W0).mono ?_)
  rintro e w1 ⟨rfl, b1⟩
  have HBX1 : Hid (w1.heap[sb]? = _) := (b1.block _ hsz0).trans HBX.out
  have c0 : w1.cell? ⟨sb, 0, none⟩ = some (.slice da D.length dc) := by rw [cell_of_block HBX1.out]; rfl
  have c1 : w1.cell? ⟨sb, 1, none⟩ = some (.slice wa Wh.length wc) := by rw [cell_of_block HBX1.out]; rfl
  have hsz1 : sb < w1.heap.size := Nat.lt_of_lt_of_le hsz0 b1.size
  have HB1 := Lib.hid (HB0.out.trans (b1.mono HB0.out.size))
  have HF1 := Lib.hid (HFW.out w1 HB1.out)
  have HP1 := Lib.hid (HPL.out w1 HB1.out)
  clear b1 HFW HBX HB0 hsz0 HPL
  go_wp2_with fail
  (with_reducible refine HF1.out.mono ?_)
  rintro e w2 ⟨rfl, rfl⟩
  clear HF1
  go_wp2_with fail
  (with_reducible refine HP1.out.mono ?_)
  rintro e w2 ⟨oa, ol, oc, ev, rfl, hpd, b2⟩
  have HPD := Lib.hid hpd
  have HBX2 : Hid (w2.heap[sb]? = _) := (b2.block _ hsz1).trans HBX1.out
  have hsz2 : sb < w2.heap.size := Nat.lt_of_lt_of_le hsz1 b2.size
  have HB2 := Lib.hid (HB1.out.trans (b2.mono HB1.out.size))
  have HA2 := Lib.hid (HAL.out w2 HB2.out)
  clear hpd b2 HP1 HBX1 HB1 HAL c0 c1 hsz1
  go_wp2_with fail
  (with_reducible refine HA2.out.mono ?_)
  rintro e w3 ⟨rfl, b3⟩
  have HB23 := Lib.hid b3
  have HB3 := Lib.hid (HB2.out.trans (b3.mono HB2.out.size))
  have HBX3 : Hid (w3.heap[sb]? = _) := (b3.block _ hsz2).trans HBX2.out
  have hsz3 : sb < w3.heap.size := Nat.lt_of_lt_of_le hsz2 b3.size
  have hsz23 := b3.size
  clear b3 HA2 HBX2 HB2 hsz2 HA
  have hAL4 : Below w3.heap.size w3 (w3.alloc (.cells #[] 34)) := (Below.refl _ _).alloc (Nat.le_refl _) _
  have hg4 : (w3.alloc (.cells #[] 34)).heap[w3.heap.size]? = some (.cells #[] 34 (0, 0)) := heap_alloc_last w3 _
  have hrs4 : Rs w3.heap.size (w3.alloc (.cells #[] 34)) a cap rows := (HS.out.later HB3.out).keep (Nat.le_refl _) (Keep.of_below hAL4)
  have HRS4 := Lib.hid hrs4
  have HAL4 := Lib.hid hAL4
  have HG4 := Lib.hid hg4
  clear hrs4 hAL4 hg4
  go_upto_block 0 with (at_builtin; refine wpList_board _ rfl _ _ rfl w3.heap.size w3.heap.size #[] rfl HG4.out rfl (Nat.le_refl _) a cap rows rfl HNIL.out HRS4.out (by simp) (by omega) ?_; intro ba bc w5 hbv hb5 hbc; have HBX5 : Hid (w5.heap[sb]? = _) := (hb5.out.block _ hsz3).trans ((HAL4.out.block _ hsz3).trans HBX3.out); have c05 : w5.cell? ⟨sb, 0, none⟩ = some (.slice da D.length dc) := by { rw [cell_of_block HBX5.out]; rfl }; have c15 : w5.cell? ⟨sb, 1, none⟩ = some (.slice wa Wh.length wc) := by { rw [cell_of_block HBX5.out]; rfl }; have HW5 := Lib.hid (HB3.out.trans ((HAL4.out.trans hb5.out).mono HB3.out.size)); have H25 := Lib.hid (HB23.out.trans ((HAL4.out.trans hb5.out).mono hsz23)))
  have hB5 : w3.heap.size ≤ w5.heap.size := Nat.le_trans (by simp) hb5.out.size
  clear HRS4 HAL4 HG4 HBX3 HB23 hb5
  obtain ⟨B, hB⟩ : ∃ B, B = w3.heap.size := ⟨_, rfl⟩
  have hwB : w.heap.size ≤ B := by have := HB3.out.size; omega
  rw [← hB] at hbv hsz3 hsz23 hB5
  clear hB HB3
  have HBC := hbc
  have HV0 : Hid (A = true → BoV B w5 ba (playR (D.take 0) rows) ∧ deedsIn rows.length (D.take 0)) := fun _ => ⟨hbv, fun d hd => by simp at hd⟩
  have HL0 : Hid (Below B w5 w5) := Below.refl _ _
  have hcc : rows.length ≤ bc := HBC.out.1
  have hcm : bc ≤ 9223372036854775807 := by have := HBC.out.2; unfold maxLen at this; omega
  clear hbv hbc HBC
  go_cut [7] (fun s7 wx => ∃ b : Bool, s7 = .bool b ∧ Hid (b = true ↔ A = true ∧ deedsIn rows.length D) ∧ Hid (b = true → BoV B wx ba (playR D rows)) ∧ Hid (Below B w5 wx))
  case first =>
    go_wp2_with fail
    go_loopw [7, 47] (fun r i wr => ∃ k : Nat, k ≤ D.length ∧ r = .bool A ∧ i = .int .i64 k ∧ Hid (A = true → BoV B wr ba (playR (D.take k) rows) ∧ deedsIn rows.length (D.take k)) ∧ Hid (Below B w5 wr)) (fun _ i _ => D.length - (intOf i).toNat)
    case atStart => exact ⟨0, by omega, rfl, rfl, HV0, HL0⟩
    case round =>
      obtain ⟨k, hk, rfl, rfl, HV, HL⟩ := hrel
      clear HV0 HL0 c05 c15
      have HBXr : Hid (wr.heap[sb]? = _) := (HL.out.block _ hsz3).trans HBX5.out
      have c0r : wr.cell? ⟨sb, 0, none⟩ = some (.slice da D.length dc) := by rw [cell_of_block HBXr.out]; rfl
      have hBr : B ≤ wr.heap.size := Nat.le_trans hB5 HL.out.size
      have hszr : sb < wr.heap.size := (Array.getElem?_eq_some_iff.1 HBXr.out).1
      by_cases hlt : k < D.length
      · have HWr := Lib.hid (HW5.out.trans (HL.out.mono hwB))
        obtain ⟨db, doff, rfl, hdb2, e0, e1, e2⟩ := dri_one (HD.out.below HWr.out) hlt
        have hrng := HD.out.rng _ (List.getElem_mem hlt)
        have hkz : (k : Int) < (D.length : Int) := by omega
        have HN := Lib.hid (playR_next (rows := rows) hlt)
        have HIN : Hid (A = true → inS rows.length D[k].1 ∧ inS rows.length D[k].2.1 → deedsIn rows.length (D.take (k + 1))) := fun e h => deedsIn_next hlt (HV.out e).2 h
        have HNI : Hid (¬ (inS rows.length D[k].1 ∧ inS rows.length D[k].2.1) → ¬ deedsIn rows.length D) := fun h h2 => h (h2 _ (List.getElem_mem hlt))
        have HX : Hid (A = true → Even rows.length L (playR (D.take k) rows)) := fun e => playR_even (HEV.out e) k (by omega) (HV.out e).2
        obtain ⟨X, hX⟩ : ∃ X, X = playR (D.take k) rows := ⟨_, rfl⟩
        rw [← hX] at HV HN HX
        obtain ⟨zt, hzt⟩ : ∃ z, z = D[k].1 := ⟨_, rfl⟩
        obtain ⟨zf, hzf⟩ : ∃ z, z = D[k].2.1 := ⟨_, rfl⟩
        obtain ⟨c, hzc⟩ : ∃ z, z = D[k].2.2 := ⟨_, rfl⟩
        have HDK : Hid (deedR X D[k] = deedR X (zt, zf, c)) := by show _ = _; rw [hzt, hzf, hzc]
        rw [HDK.out] at HN
        rw [← hzt] at e0 hrng HIN HNI
        rw [← hzf] at e1 hrng HIN HNI
        rw [← hzc] at e2 hrng
        obtain ⟨r1, r2, r3, r4, r5⟩ := hrng
        clear hzt hzf hzc HDK hX
        go_upto_region 10 with fail
        obtain ⟨nb, hnb⟩ : ∃ nb, nb = wr.heap.size := ⟨_, rfl⟩
        obtain ⟨wq, hwq⟩ : ∃ wq, wq = wr.alloc (.cells #[.int .i64 zt, .int .i64 zf, .int .u8 (c : Int)] 33) := ⟨_, rfl⟩
        have HBQ : Hid (Below wr.heap.size wr wq) := by rw [hwq]; exact (Below.refl _ _).alloc (Nat.le_refl _) _
        have HKQ : Hid (wq.heap[nb]? = some (.cells #[.int .i64 zt, .int .i64 zf, .int .u8 (c : Int)] 33 (0, 0))) := by rw [hwq, hnb]; exact heap_alloc_last wr _
        rw [← hwq, ← hnb]
        have q0 : wq.cell? ⟨nb, 0, none⟩ = some (.int .i64 zt) := by rw [cell_of_block HKQ.out]; rfl
        have q1 : wq.cell? ⟨nb, 1, none⟩ = some (.int .i64 zf) := by rw [cell_of_block HKQ.out]; rfl
        have q2 : wq.cell? ⟨nb, 2, none⟩ = some (.int .u8 (c : Int)) := by rw [cell_of_block HKQ.out]; rfl
        have HLQ := Lib.hid (HL.out.trans (HBQ.out.mono hBr))
        clear hwq hnb e0 e1 e2 hdb2 c0r
        go_cut [7] (fun s7 wx => ∃ b : Bool, s7 = .bool b ∧ Hid (b = true ↔ A = true ∧ inS rows.length zt ∧ inS rows.length zf) ∧ wx = wq)
        case first =>
          clear HN HIN HNI HX HV HBQ HKQ HLQ HL
          cases A with
          | false =>
            go_wp2_with fail
            go_meet
            exact ⟨false, rfl, ⟨fun h => (by cases h), fun h => h.1⟩, rfl⟩
          | true =>
            by_cases g0 : (0 : Int) ≤ zt
            · have d0 : decide ((0 : Int) ≤ zt) = true := decide_eq_true g0
              by_cases g1 : zt < (rows.length : Int)
              · have d1 : decide (zt < (rows.length : Int)) = true := decide_eq_true g1
                by_cases g2 : (0 : Int) ≤ zf
                · have d2 : decide ((0 : Int) ≤ zf) = true := decide_eq_true g2
                  by_cases g3 : zf < (rows.length : Int)
                  · have d3 : decide (zf < (rows.length : Int)) = true := decide_eq_true g3
                    go_wp2_with fail
                    go_meet
                    exact ⟨true, rfl, ⟨fun _ => ⟨by trivial, ⟨g0, g1⟩, g2, g3⟩, fun _ => rfl⟩, rfl⟩
                  · have d3 : decide (zf < (rows.length : Int)) = false := decide_eq_false g3
                    have HNO : Hid (¬ (inS rows.length zf)) := fun h => g3 h.2
                    go_wp2_with fail
                    go_meet
                    exact ⟨false, rfl, ⟨fun h => (by cases h), fun h => absurd h.2.2 HNO.out⟩, rfl⟩
                · have d2 : decide ((0 : Int) ≤ zf) = false := decide_eq_false g2
                  have HNO : Hid (¬ (inS rows.length zf)) := fun h => g2 h.1
                  go_wp2_with fail
                  go_meet
                  exact ⟨false, rfl, ⟨fun h => (by cases h), fun h => absurd h.2.2 HNO.out⟩, rfl⟩
              · have d1 : decide (zt < (rows.length : Int)) = false := decide_eq_false g1
                have HNO : Hid (¬ (inS rows.length zt)) := fun h => g1 h.2
                go_wp2_with fail
                go_meet
                exact ⟨false, rfl, ⟨fun h => (by cases h), fun h => absurd h.2.1 HNO.out⟩, rfl⟩
            · have d0 : decide ((0 : Int) ≤ zt) = false := decide_eq_false g0
              have HNO : Hid (¬ (inS rows.length zt)) := fun h => g0 h.1
              go_wp2_with fail
              go_meet
              exact ⟨false, rfl, ⟨fun h => (by cases h), fun h => absurd h.2.1 HNO.out⟩, rfl⟩
        case rest =>
          obtain ⟨b, rfl, HBI, rfl⟩ := hcut
          cases b with
          | false =>
            have HB1 : Hid (¬ (A = true ∧ deedsIn rows.length D)) := fun h => by
              by_cases g : inS rows.length zt ∧ inS rows.length zf
              · have := HBI.out.2 ⟨h.1, g⟩; cases this
              · exact HNI.out g h.2
            clear HBI HN HIN HNI HX HV HBQ HKQ HL
            go_wp2_with fail
            go_meet
            exact ⟨false, rfl, ⟨fun h => (by cases h), fun h => absurd h HB1.out⟩, fun h => (by cases h), HLQ.out⟩
          | true =>
            obtain ⟨hA1, g01, g23⟩ := HBI.out.1 rfl
            subst hA1
            obtain ⟨g0, g1⟩ := g01
            obtain ⟨g2, g3⟩ := g23
            obtain ⟨t, rfl⟩ : ∃ t : Nat, zt = (t : Int) := ⟨zt.toNat, by omega⟩
            obtain ⟨f, rfl⟩ : ∃ t : Nat, zf = (t : Int) := ⟨zf.toNat, by omega⟩
            have HDN := Lib.hid (HIN.out rfl ⟨⟨g0, g1⟩, g2, g3⟩)
            have hXE := HX.out rfl
            have HXL := Lib.hid hXE.rows
            have htX : t < X.length := by rw [HXL.out]; omega
            have hfX : f < X.length := by rw [HXL.out]; omega
            obtain ⟨g, hba, hbo⟩ := boV_some (HV.out rfl).1 htX
            subst hba
            obtain ⟨wd, hwd⟩ : ∃ wd, wd = wc.drew := ⟨_, rfl⟩
            have HDD : Hid (Below wr.heap.size wr wd) := by rw [hwd]; exact HBQ.out.drew
            have HLD : Hid (Below B w5 wd) := by rw [hwd]; exact HLQ.out.drew
            have HBO := Lib.hid (hbo.below HDD.out)
            have HKD : Hid (wd.heap[nb]? = some (.cells #[.int .i64 (t : Int), .int .i64 (f : Int), .int .u8 (c : Int)] 33 (0, 0))) := by rw [hwd]; exact HKQ.out
            have v0 : ∀ u : Up wd, u.v.cell? ⟨nb, 0, none⟩ = some (.int .i64 (t : Int)) := fun u => u.cell (by rw [cell_of_block HKD.out]; rfl)
            have v2 : ∀ u : Up wd, u.v.cell? ⟨nb, 2, none⟩ = some (.int .u8 (c : Int)) := fun u => u.cell (by rw [cell_of_block HKD.out]; rfl)
            obtain ⟨ai, ci, k1, s1⟩ := HBO.out.cell htX
            have hlen := hXE.len _ (List.getElem_mem htX)
            have hbyt := hXE.byte _ (List.getElem_mem htX)
            have hBd : B ≤ wd.heap.size := by rw [hwd]; exact Nat.le_trans hBr HBQ.out.size
            by_cases htf : t = f
            · subst htf
              obtain ⟨y, hy⟩ : ∃ y, y = scaleN X[t] c := ⟨_, rfl⟩
              have HY : Hid (playR (D.take (k + 1)) rows = X.set t y) := by
                show _ = _
                rw [HN.out]
                simp only [deedR, if_true, Int.toNat_natCast]
                rw [getR htX, hy]
              obtain ⟨x, hx⟩ : ∃ x, x = X[t] := ⟨_, rfl⟩
              rw [← hx] at k1 s1 hlen hbyt hy
              have hyl : y.length = x.length := by rw [hy, scaleN_len]
              have hmk := make_row x.length (by omega) wd
              have v1 : ∀ u : Up wd, u.v.cell? ⟨g, t, none⟩ = some (.slice ai x.length ci) := fun u => u.cell k1
              have hal : Below wd.heap.size wd (wd.alloc (.cells (rowArr x.length zV) 5)) := (Below.refl _ _).alloc (Nat.le_refl _) _
              have HPL : Hid (Calls Try.prog 9 #[.slice (some ⟨wd.heap.size, 0, none⟩) x.length x.length, .slice ai x.length ci, .int .u8 (c : Int)] (wd.alloc (.cells (rowArr x.length zV) 5)) fun e w8 => ∃ a8 c8, e = .returned (.slice a8 y.length c8) ∧ Rw B w8 a8 c8 y ∧ Below wd.heap.size wd w8) := by
                have h := plus_any (some ⟨wd.heap.size, 0, none⟩) ai x.length ci (List.replicate x.length 0) x c (wd.alloc (.cells (rowArr x.length zV) 5)) (by omega) (by omega) (by simp) (zero_row wd x.length (by omega)) (s1.below hal)
                rw [List.length_replicate, plus_zeros, ← hy] at h
                refine h.mono ?_
                rintro e w8 ⟨rfl, hn8⟩
                have h8 : NewTo (wd.alloc (.cells (rowArr x.length zV) 5)) w8 y y.length := by rw [hyl]; exact hn8
                have k8 := Rw.of_new (B := B) h8 (by rw [hy]; exact scaleN_byte x c hbyt) (by omega)
                exact ⟨_, y.length, by rw [hyl], k8, hal.trans (hn8.below.mono hal.size)⟩
              have HAL := Lib.hid hal
              have HTX : Hid (t < X.length) := htX
              have hzz : ((t : Int) == (t : Int)) = true := by simp
              have hxL : x.length ≤ 100 := by omega
              clear hbo HN HIN HNI HX HV HBQ HKQ HLQ HL hXE k1 s1 hx hy hyl hbyt hal HBI htX hfX HDD HKD hlen
              go_wp2_with fail
              refine growK_begin 19 (fun w' => ∃ u : Up wd, w' = u.v) (by kernel_rfl) ?_
              rw [← hwd]
              clear hwd q0 q1 q2
              refine growK_take (by kernel_rfl) [0, 1, 2, 3, 4, 5, 6, 7, 8, 10, 11, 12, 13, 14, 15, 16] 4 _ _ (by kernel_rfl) _ (up_class (Fr.refl _ _)) ?_
              simp only [opsAt, List.getElem?_toArray, List.getElem?_cons_succ, List.getElem?_cons_zero]
              repeat (first | go_big_quiet_step (fail) | quiet_step (fail))
              refine wpQuiet_nil ?_
              refine growK_one 9 (by kernel_rfl) (fun K hK => ?_)
              simp only [stepOf, List.getElem?_toArray, List.getElem?_cons_succ, List.getElem?_cons_zero]
              go_simp
              refine hK.out _ _ (up_class (Fr.of_below HAL.out)) ?_
              clear hK K hmk
              refine growK_one 17 (by kernel_rfl) (fun K hK => ?_)
              simp only [stepOf, List.getElem?_toArray, List.getElem?_cons_succ, List.getElem?_cons_zero]
              go_simp
              go_at_call 9
              (with_reducible refine HPL.out.mono ?_)
              rintro e w8 ⟨a8, c8, rfl, hr8, b8⟩
              have HR8 := Lib.hid hr8
              have HB8 := Lib.hid (HBO.out.below b8)
              have HL8 := Lib.hid (HLD.out.trans (b8.mono hBd))
              have fr8 : Fr (fun _ => False) wd w8 := Fr.of_below b8
              refine hK.out _ _ (up_class fr8) ?_
              clear hK K HPL hr8 b8 HAL HBO HLD
              refine growK_take (by kernel_rfl) [18] 1 _ _ (by kernel_rfl) _ (up_class fr8) ?_
              simp only [opsAt, List.getElem?_toArray, List.getElem?_cons_succ, List.getElem?_cons_zero]
              repeat (first | go_big_quiet_step (fail) | quiet_step (fail))
              refine wpQuiet_nil ?_
              clear v0 v1 v2 fr8
              have f8 := HB8.out.loose t
              obtain ⟨_, _, k8, _⟩ := HB8.out.cell HTX.out
              refine growK_last (by kernel_rfl) (by kernel_rfl) (fun K hK => ?_)
              simp only [stepOf, List.getElem?_toArray, List.getElem?_cons_succ, List.getElem?_cons_zero]
              go_simp
              refine hK.out _ _ ?_
              clear hK K
              have HVN : Hid (true = true → BoV B (w8.setCell ⟨g, t, none⟩ (.slice a8 y.length c8)) (some ⟨g, 0, none⟩) (playR (D.take (k + 1)) rows) ∧ deedsIn rows.length (D.take (k + 1))) := fun _ => ⟨.inr ⟨g, rfl, by rw [HY.out]; exact HB8.out.set HTX.out HR8.out⟩, HDN.out⟩
              have HLN : Hid (Below B w5 (w8.setCell ⟨g, t, none⟩ (.slice a8 y.length c8))) := HB8.out.set_below HL8.out _ _
              clear f8 k8 HB8 HL8 HR8 HY HDN
              go_wp2_with fail
              go_roundw
              case rel => first | exact ⟨k + 1, by omega, rfl, by go_num, HVN, HLN⟩ | exact ⟨k + 1, by omega, by simp, by go_num, by simpa using HVN, HLN⟩
              case measure => simp [intOf]; omega
            · obtain ⟨ai2, ci2, k2, s2⟩ := HBO.out.cell hfX
              have hlen2 := hXE.len _ (List.getElem_mem hfX)
              have hbyt2 := hXE.byte _ (List.getElem_mem hfX)
              obtain ⟨y, hy⟩ : ∃ y, y = plusN X[t] X[f] c := ⟨_, rfl⟩
              have HY : Hid (playR (D.take (k + 1)) rows = X.set t y) := by
                show _ = _
                rw [HN.out]
                have hn : ¬ ((t : Int) = (f : Int)) := by omega
                simp only [deedR, if_neg hn, Int.toNat_natCast]
                rw [getR htX, getR hfX, hy]
              obtain ⟨x, hx⟩ : ∃ x, x = X[t] := ⟨_, rfl⟩
              obtain ⟨z, hz⟩ : ∃ x, x = X[f] := ⟨_, rfl⟩
              rw [← hx] at k1 s1 hlen hbyt hy
              rw [← hz] at k2 s2 hlen2 hbyt2 hy
              have hyl : y.length = x.length := by rw [hy, plusN_len _ _ _ (by omega)]
              have v1 : ∀ u : Up wd, u.v.cell? ⟨g, t, none⟩ = some (.slice ai x.length ci) := fun u => u.cell k1
              have v3 : ∀ u : Up wd, u.v.cell? ⟨g, f, none⟩ = some (.slice ai2 z.length ci2) := fun u => u.cell k2
              have v4 : ∀ u : Up wd, u.v.cell? ⟨nb, 1, none⟩ = some (.int .i64 (f : Int)) := fun u => u.cell (by rw [cell_of_block HKD.out]; rfl)
              have HPL : Hid (Calls Try.prog 9 #[.slice ai x.length ci, .slice ai2 z.length ci2, .int .u8 (c : Int)] wd fun e w8 => ∃ a8 c8, e = .returned (.slice a8 y.length c8) ∧ Rw B w8 a8 c8 y ∧ Below wd.heap.size wd w8) := by
                have h := plus_any ai ai2 ci ci2 x z c wd (by omega) (by omega) (by omega) s1 s2
                rw [← hy] at h
                refine h.mono ?_
                rintro e w8 ⟨rfl, hn8⟩
                have h8 : NewTo wd w8 y y.length := by rw [hyl]; exact hn8
                have k8 := Rw.of_new (B := B) h8 (by rw [hy]; exact plusN_byte x z c hbyt hbyt2) (by omega)
                exact ⟨_, y.length, by rw [hyl], k8, hn8.below⟩
              have HTX : Hid (t < X.length) := htX
              have hzz : ((t : Int) == (f : Int)) = false := by simp; omega
              have hnn : ¬ ((t : Int) = (f : Int)) := by omega
              have hxL : x.length ≤ 100 := by omega
              have hzL : z.length ≤ 100 := by omega
              clear hbo HN HIN HNI HX HV HBQ HKQ HLQ HL hXE k1 s1 hx hy hyl hbyt HBI htX hfX HDD HKD k2 s2 hz hbyt2 htf hlen hlen2
              go_wp2_with fail
              refine growK_begin 17 (fun w' => ∃ u : Up wd, w' = u.v) (by kernel_rfl) ?_
              rw [← hwd]
              clear hwd q0 q1 q2
              refine growK_take (by kernel_rfl) [0, 1, 2, 3, 4, 5, 6, 7, 8, 9, 10, 11, 12, 13, 14] 3 _ _ (by kernel_rfl) _ (up_class (Fr.refl _ _)) ?_
              simp only [opsAt, List.getElem?_toArray, List.getElem?_cons_succ, List.getElem?_cons_zero]
              repeat (first | go_big_quiet_step (fail) | quiet_step (fail))
              refine wpQuiet_nil ?_
              refine growK_one 15 (by kernel_rfl) (fun K hK => ?_)
              simp only [stepOf, List.getElem?_toArray, List.getElem?_cons_succ, List.getElem?_cons_zero]
              go_simp
              go_at_call 9
              (with_reducible refine HPL.out.mono ?_)
              rintro e w8 ⟨a8, c8, rfl, hr8, b8⟩
              have HR8 := Lib.hid hr8
              have HB8 := Lib.hid (HBO.out.below b8)
              have HL8 := Lib.hid (HLD.out.trans (b8.mono hBd))
              have fr8 : Fr (fun _ => False) wd w8 := Fr.of_below b8
              refine hK.out _ _ (up_class fr8) ?_
              clear hK K HPL hr8 b8 HBO HLD
              refine growK_take (by kernel_rfl) [16] 1 _ _ (by kernel_rfl) _ (up_class fr8) ?_
              simp only [opsAt, List.getElem?_toArray, List.getElem?_cons_succ, List.getElem?_cons_zero]
              repeat (first | go_big_quiet_step (fail) | quiet_step (fail))
              refine wpQuiet_nil ?_
              clear v0 v1 v2 v3 v4 fr8
              have f8 := HB8.out.loose t
              obtain ⟨_, _, k8, _⟩ := HB8.out.cell HTX.out
              refine growK_last (by kernel_rfl) (by kernel_rfl) (fun K hK => ?_)
              simp only [stepOf, List.getElem?_toArray, List.getElem?_cons_succ, List.getElem?_cons_zero]
              go_simp
              refine hK.out _ _ ?_
              clear hK K
              have HVN : Hid (true = true → BoV B (w8.setCell ⟨g, t, none⟩ (.slice a8 y.length c8)) (some ⟨g, 0, none⟩) (playR (D.take (k + 1)) rows) ∧ deedsIn rows.length (D.take (k + 1))) := fun _ => ⟨.inr ⟨g, rfl, by rw [HY.out]; exact HB8.out.set HTX.out HR8.out⟩, HDN.out⟩
              have HLN : Hid (Below B w5 (w8.setCell ⟨g, t, none⟩ (.slice a8 y.length c8))) := HB8.out.set_below HL8.out _ _
              clear f8 k8 HB8 HL8 HR8 HY HDN
              go_wp2_with fail
              go_roundw
              case rel => first | exact ⟨k + 1, by omega, rfl, by go_num, HVN, HLN⟩ | exact ⟨k + 1, by omega, by simp, by go_num, by simpa using HVN, HLN⟩
              case measure => simp [intOf]; omega
      · obtain rfl : k = D.length := by omega
        rw [List.take_length] at HV
        go_wp2_with fail
        go_meet
        exact ⟨A, rfl, ⟨fun e => ⟨e, (HV.out e).2⟩, fun e => e.1⟩, fun e => (HV.out e).1, HL.out⟩
  case rest =>
      obtain ⟨b0, rfl, HI2, HV2, HL2⟩ := hcut
      obtain ⟨W1, rfl⟩ : ∃ z, z = wc := ⟨_, rfl⟩
      have HBXw : Hid (W1.heap[sb]? = _) := (HL2.out.block _ hsz3).trans HBX5.out
      have c1w : W1.cell? ⟨sb, 1, none⟩ = some (.slice wa Wh.length wc) := by rw [cell_of_block HBXw.out]; rfl
      clear HV0 HL0 c05
      go_wp2_with fail
      go_loopw [7, 127] (fun r i wr => ∃ (j : Nat) (b : Bool), j ≤ Wh.length ∧ r = .bool b ∧ i = .int .i64 j ∧ Hid (b = true ↔ b0 = true ∧ slotsIn rows.length (Wh.take j)) ∧ Hid (b0 = true → BoV B wr ba (playR D rows)) ∧ Hid (Below B w5 wr)) (fun _ i _ => Wh.length - (intOf i).toNat)
      case atStart => exact ⟨0, b0, by omega, rfl, rfl, ⟨fun e => ⟨e, fun x hx => by simp at hx⟩, fun e => e.1⟩, HV2, HL2⟩
      case round =>
        obtain ⟨j, b, hj, rfl, rfl, HBJ, HVj, HLj⟩ := hrel
        clear HV2 HL2
        have HBXj : Hid (wr.heap[sb]? = _) := (HLj.out.block _ hsz3).trans HBX5.out
        have c1j : wr.cell? ⟨sb, 1, none⟩ = some (.slice wa Wh.length wc) := by rw [cell_of_block HBXj.out]; rfl
        by_cases hltj : j < Wh.length
        · have HWj := Lib.hid (HW5.out.trans (HLj.out.mono hwB))
          have hjz : (j : Int) < (Wh.length : Int) := by omega
          have HSN := Lib.hid (slotsIn_next (m := rows.length) hltj)
          obtain ⟨wb, wo, rfl, hwb2, ew⟩ := (HW.out.below HWj.out).some hltj
          have hwr := HW.out.rng _ (List.getElem_mem hltj)
          obtain ⟨x, hx⟩ : ∃ x, x = Wh[j] := ⟨_, rfl⟩
          rw [← hx] at ew hwr HSN
          clear hx
          cases b with
          | false =>
            have HBN : Hid (false = true ↔ b0 = true ∧ slotsIn rows.length (Wh.take (j + 1))) := ⟨fun h => (by cases h), fun h => HBJ.out.2 ⟨h.1, (HSN.out.1 h.2).1⟩⟩
            clear HBJ HSN
            go_wp2_with fail
            go_roundw
            case rel => exact ⟨j + 1, false, by omega, rfl, by go_num, HBN, HVj, HLj⟩
            case measure => simp [intOf]; omega
          | true =>
            have hb1 := HBJ.out.1 rfl
            by_cases h0 : x < 0
            · have g0 : ¬ (0 : Int) ≤ x := by omega
              have d0 : decide ((0 : Int) ≤ x) = false := decide_eq_false g0
              have HBN : Hid (false = true ↔ b0 = true ∧ slotsIn rows.length (Wh.take (j + 1))) := ⟨fun h => (by cases h), fun h => by have := (HSN.out.1 h.2).2.1; omega⟩
              clear HBJ HSN hb1
              go_wp2_with fail
              go_roundw
              case rel => exact ⟨j + 1, false, by omega, rfl, by go_num, HBN, HVj, HLj⟩
              case measure => simp [intOf]; omega
            · have g0 : (0 : Int) ≤ x := by omega
              have d0 : decide ((0 : Int) ≤ x) = true := decide_eq_true g0
              by_cases h1 : x < (rows.length : Int)
              · have d1 : decide (x < (rows.length : Int)) = true := decide_eq_true h1
                have HBN : Hid (true = true ↔ b0 = true ∧ slotsIn rows.length (Wh.take (j + 1))) := ⟨fun _ => ⟨hb1.1, HSN.out.2 ⟨hb1.2, g0, h1⟩⟩, fun _ => rfl⟩
                clear HBJ HSN hb1
                go_wp2_with fail
                go_roundw
                case rel => exact ⟨j + 1, true, by omega, rfl, by go_num, HBN, HVj, HLj⟩
                case measure => simp [intOf]; omega
              · have d1 : decide (x < (rows.length : Int)) = false := decide_eq_false h1
                have HBN : Hid (false = true ↔ b0 = true ∧ slotsIn rows.length (Wh.take (j + 1))) := ⟨fun h => (by cases h), fun h => by have := (HSN.out.1 h.2).2.2; omega⟩
                clear HBJ HSN hb1
                go_wp2_with fail
                go_roundw
                case rel => exact ⟨j + 1, false, by omega, rfl, by go_num, HBN, HVj, HLj⟩
                case measure => simp [intOf]; omega
        · obtain rfl : j = Wh.length := by omega
          rw [List.take_length] at HBJ
          have hwl : Wh.length ≤ 100 := hw
          obtain ⟨W2, rfl⟩ : ∃ z, z = wr := ⟨_, rfl⟩
          have HWE := Lib.hid (HW5.out.trans (HLj.out.mono hwB))
          cases b with
          | false =>
            have NB : Hid (¬ (A = true ∧ deedsIn rows.length D ∧ slotsIn rows.length Wh)) := fun h => by have := HBJ.out.2 ⟨HI2.out.2 ⟨h.1, h.2.1⟩, h.2.2⟩; cases this
            rcases HPD.out with ⟨hgd, -⟩ | ⟨-, rfl, rfl⟩
            · exact absurd hgd NB.out
            · clear HPD HBJ NB
              go_wp2_with fail
              go_ret
              exact ⟨rfl, HWE.out⟩
          | true =>
            have HB0T := (HBJ.out.1 rfl).1
            have HGD : Hid (A = true ∧ deedsIn rows.length D ∧ slotsIn rows.length Wh) := ⟨(HI2.out.1 HB0T).1, (HI2.out.1 HB0T).2, (HBJ.out.1 rfl).2⟩
            have HVK := Lib.hid (HVj.out HB0T)
            clear HB0T
            rcases HPD.out with ⟨-, rfl, rfl, hrs⟩ | ⟨hng, -⟩
            · have HRSJ : Hid (Rs W2.heap.size W2 oa oc res) := hrs.later (H25.out.trans (HLj.out.mono hsz23))
              have hrl : res.length = Wh.length := by rw [HRES.out, List.length_map]
              have hoc : Wh.length ≤ oc := by rw [← hrl]; exact hrs.len
              have hom : oc ≤ 9223372036854775807 := by have := hrs.most; unfold maxLen at this; omega
              have hbr : Hid ((playR D rows).length = rows.length) := by
                have h := (playR_even (HEV.out HGD.out.1) D.length (Nat.le_refl _) (by rw [List.take_length]; exact HGD.out.2.1)).rows
                rw [List.take_length] at h; exact h
              have HRL := Lib.hid hrl
              clear HPD HBJ hrs hrl
              go_wp2_with fail
              go_loopw [171] (fun i wy => ∃ m : Nat, m ≤ Wh.length ∧ i = .int .i64 m ∧ Hid (Below W2.heap.size W2 wy)) (fun i _ => Wh.length - (intOf i).toNat)
              case atStart => exact ⟨0, by omega, rfl, Below.refl _ _⟩
              case round =>
                obtain ⟨m, hm, rfl, HM⟩ := hrel
                by_cases hltm : m < Wh.length
                · have HWE2 := Lib.hid (HWE.out.trans (HM.out.mono HWE.out.size))
                  obtain ⟨ob, oo, rfl, hob, oi, ok, hcell, hsl⟩ := rs_row (HRSJ.out.later HM.out) (i := m) (by rw [HRL.out]; exact hltm)
                  obtain ⟨wb, wo, rfl, hwb2, ew⟩ := (HW.out.below HWE2.out).some hltm
                  obtain ⟨q1, q2⟩ := HGD.out.2.2 _ (List.getElem_mem hltm)
                  obtain ⟨x, hx⟩ : ∃ x : Nat, Wh[m] = (x : Int) := ⟨Wh[m].toNat, by omega⟩
                  rw [hx] at ew q1 q2
                  have hxl : x < (playR D rows).length := by rw [hbr.out]; omega
                  obtain ⟨g, hba, hbo⟩ := boV_some (HVK.out.below HM.out) hxl
                  subst hba
                  obtain ⟨at_, ct, k1, s1⟩ := hbo.cell hxl
                  have hglt := hbo.lt
                  have hy : ∀ (h : m < res.length), res[m] = (playR D rows)[x] := by
                    rw [HRES.out]
                    intro h
                    rw [List.getElem_map, hx, Int.toNat_natCast]
                    exact getR hxl
                  rw [hy] at hcell hsl
                  obtain ⟨y, hyy⟩ : ∃ y, y = (playR D rows)[x] := ⟨_, rfl⟩
                  rw [← hyy] at hcell hsl k1 s1
                  have HBXm : Hid (wr.heap[sb]? = _) := (HM.out.block _ (Array.getElem?_eq_some_iff.1 HBXj.out).1).trans HBXj.out
                  have hsbr : sb < wr.heap.size := (Array.getElem?_eq_some_iff.1 HBXm.out).1
                  have c1m : wr.cell? ⟨sb, 1, none⟩ = some (.slice (some ⟨wb, wo, none⟩) Wh.length wc) := by rw [cell_of_block HBXm.out]; rfl
                  obtain ⟨wd, hwd⟩ : ∃ wd, wd = wr.drew := ⟨_, rfl⟩
                  have HDd : Hid (Below wr.heap.size wr wd) := by rw [hwd]; exact (Below.refl _ _).drew
                  have u0 : ∀ u : Up wd, u.v.cell? ⟨sb, 1, none⟩ = some (.slice (some ⟨wb, wo, none⟩) Wh.length wc) := fun u => u.cell ((HDd.out.cell (p := ⟨sb, 1, none⟩) hsbr).trans c1m)
                  have u1 : ∀ u : Up wd, u.v.cell? ⟨ob, oo + m, none⟩ = some (.slice oi y.length ok) := fun u => u.cell ((HDd.out.cell (p := ⟨ob, oo + m, none⟩) hob).trans hcell)
                  have u2 : ∀ u : Up wd, u.v.cell? ⟨wb, wo + m, none⟩ = some (.int .i64 (x : Int)) := fun u => u.cell ((HDd.out.cell (p := ⟨wb, wo + m, none⟩) (by show wb < _; have := HWE2.out.size; omega)).trans ew)
                  have u3 : ∀ u : Up wd, u.v.cell? ⟨g, x, none⟩ = some (.slice at_ y.length ct) := fun u => u.cell ((HDd.out.cell (p := ⟨g, x, none⟩) hglt).trans k1)
                  have cv1 : ∀ u : Up wd, (convert 34 9 (.slice oi y.length ok)).run Try.prog u.v = .ok (.string (strOf y)) u.v := fun u => conv_n ((hsl.below HDd.out).below (up_below u)) rfl
                  have cv2 : ∀ u : Up wd, (convert 34 9 (.slice at_ y.length ct)).run Try.prog u.v = .ok (.string (strOf y)) u.v := fun u => conv_n ((s1.below HDd.out).below (up_below u)) rfl
                  have hmz : (m : Int) < (Wh.length : Int) := by omega
                  have HMN : Hid (Below W2.heap.size W2 wd) := HM.out.trans (HDd.out.mono HM.out.size)
                  clear hyy hy hcell hsl k1 s1 hbo ew hx HBXm c1m HDd HM hwb2 hob hglt hxl
                  go_wp2_with fail
                  refine growK_begin 14 (fun w' => ∃ u : Up wd, w' = u.v) (by kernel_rfl) ?_
                  rw [← hwd]
                  clear hwd
                  refine growK_take (by kernel_rfl) [0, 1, 2, 3, 4, 5, 6, 7, 8, 9, 10, 11, 12, 13] 1 _ _ (by kernel_rfl) _ (up_class (Fr.refl _ _)) ?_
                  simp only [opsAt, List.getElem?_toArray, List.getElem?_cons_succ, List.getElem?_cons_zero]
                  repeat (first | go_big_quiet_step (fail) | quiet_step (fail))
                  refine wpQuiet_nil ?_
                  refine growK_last (by kernel_rfl) (by kernel_rfl) (fun K hK => ?_)
                  simp only [stepOf, List.getElem?_toArray, List.getElem?_cons_succ, List.getElem?_cons_zero]
                  go_simp
                  refine hK.out _ _ ?_
                  clear hK K
                  go_wp2_with fail
                  go_roundw
                  case rel => first | exact ⟨m + 1, by omega, by go_num, HMN⟩ | ((repeat apply Exists.intro); exact ⟨⟨m + 1, by omega, by go_num, HMN⟩, rfl⟩)
                  case measure => simp [intOf]; omega
                · obtain rfl : m = Wh.length := by omega
                  have HWF := Lib.hid (HWE.out.trans (HM.out.mono HWE.out.size))
                  go_wp2_with fail
                  go_ret
                  exact ⟨rfl, HWF.out⟩
            · exact absurd HGD.out hng
end Go.Proofs.Ytahkjimbmapofaa
