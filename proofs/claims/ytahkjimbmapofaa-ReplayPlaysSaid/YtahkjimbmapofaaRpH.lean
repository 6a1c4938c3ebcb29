/-
  Package replay: Play.
-/
import Derived.Test.YtahkjimbmapofaaRpZ
namespace Go.Proofs.Ytahkjimbmapofaa
open Go.ChangeShapes Go.WideShapes Go.ChangeAt Go.RowKit Go.Joins
set_option linter.unusedVariables false

/-- What Play has answered. -/
def PlayPost (D : Dk) (Wh : List Int) (rows : Rws) (w : World) (e : Ending) (w' : World) : Prop :=
  Below w.heap.size w w' ∧ ((alikeB rows = true ∧ deedsIn rows.length D ∧ slotsIn rows.length Wh ∧ ∃ oa oc, e = .returned (.tuple #[.slice oa Wh.length oc, .int .i64 0]) ∧ Rs w'.heap.size w' oa oc (Wh.map fun x => (playR D rows).getD x.toNat []))
    ∨ (¬ (alikeB rows = true ∧ deedsIn rows.length D ∧ slotsIn rows.length Wh) ∧ e = .returned (.tuple #[.slice none 0 0, .int .i64 1])))

set_option maxRecDepth 1000000 in
set_option maxHeartbeats 4000000 in
theorem play_any (da : Option Addr) (dc : Nat) (D : Dk) (wa : Option Addr) (wc : Nat) (Wh : List Int) (a : Option Addr) (cap : Nat) (rows : Rws) (w : World) (hD : Dri w da dc D) (hW : Is w wa wc Wh) (hs : Rs w.heap.size w a cap rows) (hF : fewC rows = true) (hd : D.length ≤ 200) (hw : Wh.length ≤ 100) :
    Calls Try.prog 7 #[.agg #[.slice da D.length dc, .slice wa Wh.length wc], .slice a rows.length cap] w (PlayPost D Wh rows w) := by
  have h40 := (fewC_iff.1 hF).1
  have H100 := Lib.hid (fewC_iff.1 hF).2
  have HD := Lib.hid hD
  have HW := Lib.hid hW
  have HBY := Lib.hid hs.byte
  have hal : Below w.heap.size w (w.alloc (.cells #[.slice da D.length dc, .slice wa Wh.length wc] 25)) := (Below.refl _ _).alloc (Nat.le_refl _) _
  have HNW := Lib.hid (newBoard_any a cap rows (w.alloc (.cells #[.slice da D.length dc, .slice wa Wh.length wc] 25)) (hs.later hal) hF)
  have HBX : Hid ((w.alloc (.cells #[.slice da D.length dc, .slice wa Wh.length wc] 25)).heap[w.heap.size]? = some (.cells #[.slice da D.length dc, .slice wa Wh.length wc] 25 (0, 0))) := heap_alloc_last w _
  have hsz0 : w.heap.size < (w.alloc (.cells #[.slice da D.length dc, .slice wa Wh.length wc] 25)).heap.size := by simp
  have HB0 := Lib.hid hal
  have hD1 := hD.len
  have hD2 : dc ≤ 9223372036854775807 := by have := hD.most; unfold maxLen at this; omega
  have hW1 := hW.len
  have hW2 : wc ≤ 9223372036854775807 := by have := hW.most; unfold maxLen at this; omega
  have hmk := fun w' => make_grid Wh.length (by omega) w'
  have hmf := mkFunc
  clear hs hF hal hD hW
  go_enter Try.func7, Try.ntmps7
  go_wp2_with fail
  obtain ⟨W0, hW0⟩ : ∃ W0, W0 = w.alloc (.cells #[.slice da D.length dc, .slice wa Wh.length wc] 25) := ⟨_, rfl⟩
  rw [← hW0] at HB0 HBX hsz0 HNW ⊢
  clear hW0
  obtain ⟨sb, hsb⟩ : ∃ sb, sb = w.heap.size := ⟨_, rfl⟩
  have hsbw : w.heap.size ≤ sb := by omega
  rw [← hsb] at HBX hsz0 ⊢
  clear hsb
  (with_reducible refine HNW.out.mono ?_)
  rintro e w1 ⟨b1, ⟨hA, b, rfl, hbd⟩ | ⟨hA, rfl⟩⟩
  · have HBX1 : Hid (w1.heap[sb]? = _) := (b1.block _ hsz0).trans HBX.out
    have c0 : w1.cell? ⟨sb, 0, none⟩ = some (.slice da D.length dc) := by rw [cell_of_block HBX1.out]; rfl
    have HB1 := Lib.hid (HB0.out.trans (b1.mono HB0.out.size))
    obtain ⟨B, hB⟩ : ∃ B, B = W0.heap.size := ⟨_, rfl⟩
    have hwB : w.heap.size ≤ B := by have := HB0.out.size; omega
    have hsB : sb < B := by omega
    rw [← hB] at hbd
    obtain ⟨L, hL⟩ : ∃ L, L = (rows.getD 0 []).length := ⟨_, rfl⟩
    have HEV : Hid (Even rows.length L rows) := ⟨rfl, fun x hx => by rw [hL]; exact alikeB_iff.1 hA x hx, HBY.out⟩
    have hL100 : L ≤ 100 := by
      rw [hL]
      by_cases h0 : 0 < rows.length
      · rw [getR h0]; exact H100.out _ (List.getElem_mem h0)
      · simp [List.getD, List.getElem?_eq_none (show rows.length ≤ 0 by omega)]
    have HAL := Lib.hid hA
    have HED := Lib.hid (eachDeed_any B w1 b rows L hbd HEV.out h40 hL100 da dc D (fun w' k => HD.out.below (HB1.out.trans (k.mono hwB))) hd)
    clear hbd hA b1 HNW HBX HB0 hsz0 hL hB
    go_wp2_with fail
    (with_reducible refine HED.out.mono ?_)
    rintro e w2 ⟨b2, ⟨gd, rfl, hbd⟩ | ⟨gd, rfl⟩⟩
    · have HBX2 : Hid (w2.heap[sb]? = _) := (b2.block _ hsB).trans HBX1.out
      have c1 : w2.cell? ⟨sb, 1, none⟩ = some (.slice wa Wh.length wc) := by rw [cell_of_block HBX2.out]; rfl
      have HB2 := Lib.hid (HB1.out.trans (b2.mono hwB))
      have HGD := Lib.hid gd
      have HR : Hid (Even rows.length L (playR D rows)) := by
        have h := playR_even HEV.out D.length (Nat.le_refl _) (by rw [List.take_length]; exact gd)
        rw [List.take_length] at h
        exact h
      obtain ⟨R, hR⟩ : ∃ R, R = playR D rows := ⟨_, rfl⟩
      rw [← hR] at hbd HR
      have HRR := Lib.hid hR
      have hRl := HR.out.rows
      have hRF := HR.out.few h40 hL100
      have HBD := Lib.hid hbd
      have hEI := eachInt_any w2 B b R hbd (by omega) wa wc Wh (HW.out.below HB2.out) hw
      rw [hRl] at hEI
      have HEI := Lib.hid hEI
      have HRF := Lib.hid hRF
      have HRL := Lib.hid hRl
      clear hbd gd b2 HED HB1 HBX1 c0 hR hRl hRF hEI HEV
      go_wp2_with fail
      (with_reducible refine HEI.out.mono ?_)
      rintro e w3 ⟨rfl, ⟨gs, rfl⟩ | ⟨gs, rfl⟩⟩
      · have HGS := Lib.hid gs
        obtain ⟨res, hres⟩ : ∃ res, res = Wh.map fun x => R.getD x.toNat [] := ⟨_, rfl⟩
        have HRES := Lib.hid hres
        have HRSL : Hid (res.length = Wh.length) := by show _ = _; rw [hres, List.length_map]
        obtain ⟨G, hG⟩ : ∃ G, G = w2.heap.size := ⟨_, rfl⟩
        obtain ⟨w4, hw4⟩ : ∃ w4, w4 = w2.alloc (.cells (rowArr Wh.length nilV) 34) := ⟨_, rfl⟩
        have HB4 : Hid (Below w2.heap.size w2 w4) := by rw [hw4]; exact (Below.refl _ _).alloc (Nat.le_refl _) _
        have HG0 : Hid (Grid G w4 G (preR res 0)) := by
          rw [hG, hw4, preR_zero, HRSL.out]
          exact Grid.new _ _ w2 (Nat.le_refl _)
        have hmk2 := hmk w2
        rw [← hG, ← hw4] at hmk2
        have c14 : w4.cell? ⟨sb, 1, none⟩ = some (.slice wa Wh.length wc) := by
          rw [cell_of_block ((HB4.out.block _ (Array.getElem?_eq_some_iff.1 HBX2.out).1).trans HBX2.out)]; rfl
        rw [← hG] at HB4
        have HGE := Lib.hid hG
        clear gs hmk hres hG hw4 HEI HBX2
        go_wp2_with fail
        have HL0 : Hid (Below G w4 w4) := Below.refl _ _
        clear hmk2
        go_loopw [44] (fun i wr => ∃ k : Nat, k ≤ Wh.length ∧ i = .int .i64 k ∧ Hid (Grid G wr G (preR res k)) ∧ Hid (Below G w4 wr)) (fun i _ => Wh.length - (intOf i).toNat)
        case atStart => exact ⟨0, by omega, rfl, HG0, HL0⟩
        case round =>
          obtain ⟨k, hk, rfl, HG, HL⟩ := hrel
          clear HG0 HL0 c14
          have H2r : Hid (Below w2.heap.size w2 wr) := by
            rw [← HGE.out]
            exact HB4.out.trans HL.out
          by_cases hlt : k < Wh.length
          · have hkz : (k : Int) < (Wh.length : Int) := by omega
            have hwr := (HW.out.below (HB2.out.trans (H2r.out.mono HB2.out.size))).some hlt
            obtain ⟨wb, wo, rfl, hwb2, ew⟩ := hwr
            obtain ⟨q1, q2⟩ := HGS.out _ (List.getElem_mem hlt)
            obtain ⟨x, hx⟩ : ∃ x : Nat, Wh[k] = (x : Int) := ⟨Wh[k].toNat, by omega⟩
            rw [hx] at ew q1 q2
            have hxl : x < R.length := by rw [HRL.out]; omega
            have hkr : k < res.length := by rw [HRSL.out]; exact hlt
            have hy : res[k] = R[x] := by
              have : ∀ (h : k < res.length), res[k] = R[x] := by
                rw [HRES.out]
                intro h
                rw [List.getElem_map, hx, Int.toNat_natCast]
                exact getR hxl
              exact this hkr
            have HSL := Lib.hid (bdSlot_any B wr b R x hxl (HBD.out.keep H2r.out) HRF.out)
            have HPL : Hid (k < (preR res k).length) := by show _ < _; rw [preR_len (Nat.le_of_lt hkr)]; exact hkr
            obtain ⟨y, hyy⟩ : ∃ y, y = R[x] := ⟨_, rfl⟩
            have HPS : Hid ((preR res k).set k y = preR res (k + 1)) := by
              show _ = _
              rw [← preR_set hkr, hy, hyy]
            rw [← hyy] at HSL
            clear hyy hx hy q1 q2 hxl hkr
            go_wp2_with fail
            (with_reducible refine HSL.out.mono ?_)
            rintro e w9 ⟨a9, c9, rfl, hr9, b9⟩
            have HG9 := Lib.hid (HG.out.below b9)
            have HL9 := Lib.hid (HL.out.trans (b9.mono (Nat.le_of_lt HG.out.lt)))
            have f9 := HG9.out.loose k
            obtain ⟨_, _, k9, _⟩ := HG9.out.cell HPL.out
            have HR9 := Lib.hid hr9
            clear hr9 b9 HSL HG HL H2r
            go_wp2_with fail
            have HGN : Hid (Grid G (w9.setCell ⟨G, k, none⟩ (.slice a9 y.length c9)) G (preR res (k + 1))) := by
              have h := HG9.out.set HPL.out HR9.out.raise0
              rw [HPS.out] at h
              exact h
            have HLN : Hid (Below G w4 (w9.setCell ⟨G, k, none⟩ (.slice a9 y.length c9))) := HL9.out.setCell (p := ⟨G, k, none⟩) (Nat.le_refl _) _
            clear f9 k9 HG9 HL9
            go_roundw
            case rel => exact ⟨k + 1, by omega, by go_num, HGN, HLN⟩
            case measure => simp [intOf]; omega
          · obtain rfl : k = Wh.length := by omega
            have HRS : Hid (Rs wr.heap.size wr (some ⟨G, 0, none⟩) Wh.length res) := by
              have h := HG.out
              rw [← HRSL.out, preR_full] at h
              have h2 := h.rs (by rw [HRSL.out]; omega)
              rw [HRSL.out] at h2
              exact h2
            have HBF := Lib.hid (HB2.out.trans (H2r.out.mono HB2.out.size))
            go_wp2_with fail
            go_ret2
            refine ⟨HBF.out, .inl ⟨HAL.out, HGD.out, HGS.out, some ⟨G, 0, none⟩, Wh.length, rfl, ?_⟩⟩
            have h := HRS.out
            rw [HRES.out, HRR.out] at h
            exact h
      · have HNS := Lib.hid gs
        clear gs HEI hmk
        go_wp2_with fail
        go_ret2
        exact ⟨HB2.out, .inr ⟨fun h => HNS.out h.2.2, rfl⟩⟩
    · have HB2 := Lib.hid (HB1.out.trans (b2.mono hwB))
      have HNG := Lib.hid gd
      clear gd b2 HED hmk
      go_wp2_with fail
      go_ret2
      exact ⟨HB2.out, .inr ⟨fun h => HNG.out h.2.1, rfl⟩⟩
  · have HB1 := Lib.hid (HB0.out.trans (b1.mono HB0.out.size))
    have HNA := Lib.hid hA
    clear hA b1 HNW hmk
    go_wp2_with fail
    go_ret2
    exact ⟨HB1.out, .inr ⟨fun h => (by have h1 := h.1; rw [HNA.out] at h1; cases h1), rfl⟩⟩
/-- What Play answers. -/
theorem playC : PlayC where
  good := fun da dc D wa wc Wh a cap rows w hD hW hs hF hd hw hA hi hsl => (play_any da dc D wa wc Wh a cap rows w hD hW hs hF hd hw).mono fun e w' h => by
    obtain ⟨h1, ⟨_, _, _, oa, oc, rfl, h2⟩ | ⟨h2, _⟩⟩ := h
    · exact ⟨oa, oc, rfl, h2, h1⟩
    · exact absurd ⟨hA, hi, hsl⟩ h2
  bad := fun da dc D wa wc Wh a cap rows w hD hW hs hF hd hw hno => (play_any da dc D wa wc Wh a cap rows w hD hW hs hF hd hw).mono fun e w' h => by
    obtain ⟨h1, ⟨g1, g2, g3, _⟩ | ⟨_, rfl⟩⟩ := h
    · exact absurd ⟨g1, g2, g3⟩ hno
    · exact ⟨none, 0, rfl, h1⟩

theorem replayPlays_walk (da : Option Addr) (dc : Nat) (D : Dk) (wa : Option Addr) (wc : Nat) (Wh : List Int) (a : Option Addr) (cap : Nat) (rows : Rws) (w : World) (hD : Dri w da dc D) (hW : Is w wa wc Wh) (hs : Rs w.heap.size w a cap rows) (hnil : a = none → cap = 0) :
    Calls Try.prog 3 #[.agg #[.slice da D.length dc, .slice wa Wh.length wc], .slice a rows.length cap] w (TrueAnd w) := by
  by_cases hF : fewC rows = true
  · by_cases hd : D.length ≤ 200
    · by_cases hw : Wh.length ≤ 100
      · exact plays_in repC playC da dc D wa wc Wh a cap rows w hD hW hs hnil hF hd hw
      · exact plays_out repC da dc D wa wc Wh a cap rows w hD hW hs (.inr (.inr (by omega)))
    · exact plays_out repC da dc D wa wc Wh a cap rows w hD hW hs (.inr (.inl (by omega)))
  · exact plays_out repC da dc D wa wc Wh a cap rows w hD hW hs (.inl (by simpa using hF))
end Go.Proofs.Ytahkjimbmapofaa
