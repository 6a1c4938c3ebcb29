/-
  Layer 14's law function body.
  Layer 14's law function body.
  Layer 14's law function body, of any packet; awake.
-/
import Derived.Test.YthpfjgbhacdpgaaDoorMg22
section
namespace Go.Proofs.YthpfjgbhacdpgaaDoor
open Go.ChangeShapes Go.WideShapes Go.ChangeAt Go.RowKit Go.Joins
set_option linter.unusedVariables false

set_option maxRecDepth 1000000 in
set_option maxHeartbeats 16000000 in
theorem body_k4 (p : Pk) (sa : Option Addr) (sc : Nat) (da : Option Addr) (dc : Nat) (w : World) (hp : PkAt w p sa sc da dc) (hsl : p.sums.length ≤ 1000) (hdl : p.data.length ≤ 900000) (hnl : p.file.name.length ≤ 100000) (hk : p.kind = 4) :
    Calls Tryd.prog 11 #[.agg (rowArr 51 (pkV p sa sc da dc))] w (BodyPost p w) := by
  have mixed : Tryd.prog.follows .mixedOrders = true := by kernel_rfl
  have hHB : Below w.heap.size w (w.alloc (.cells (rowArr 51 (pkV p sa sc da dc)) 30)) := (Below.refl _ _).alloc (Nat.le_refl _) _
  have hHP : Row (w.alloc (.cells (rowArr 51 (pkV p sa sc da dc)) 30)) w.heap.size 30 51 51 (pkV p sa sc da dc) := Row.of_whole (heap_alloc_last w _)
  have HB := Lib.hid hHB
  have HP := Lib.hid hHP
  have HPK := Lib.hid (hp.below hHB)
  obtain ⟨arr, harr⟩ : ∃ arr, arr = rowArr 51 (pkV p sa sc da dc) := ⟨_, rfl⟩
  rw [← harr] at HB HP HPK ⊢
  clear harr hHB hHP hp
  go_enter Tryd.func11, Tryd.ntmps11
  go_upto_region 1 with fail
  obtain ⟨B, hB⟩ : ∃ B, B = w.heap.size := ⟨_, rfl⟩
  have hwB : w.heap.size ≤ B := by omega
  rw [← hB] at HP ⊢
  generalize w.alloc (.cells arr 30) = w1 at *
  clear hB
  obtain ⟨set, kd, sl, fs, ss, ix, fl, sm, id, dt⟩ := p
  simp only at hsl hdl hnl hk
  have c8 : w1.cell? ⟨B, 8, none⟩ = some (.int .i64 kd) := HP.out.cell 8 (by omega)
  have c9 : w1.cell? ⟨B, 9, none⟩ = some (.int .i64 sl) := HP.out.cell 9 (by omega)
  have c10 : w1.cell? ⟨B, 10, none⟩ = some (.int .i64 fs) := HP.out.cell 10 (by omega)
  have c11 : w1.cell? ⟨B, 11, none⟩ = some (.int .i64 ss) := HP.out.cell 11 (by omega)
  have c12 : w1.cell? ⟨B, 12, none⟩ = some (.int .i64 ix) := HP.out.cell 12 (by omega)
  have c48 : w1.cell? ⟨B, 48, none⟩ = some (.slice sa sm.length sc) := HP.out.cell 48 (by omega)
  have c49 : w1.cell? ⟨B, 49, none⟩ = some (.int .u32 (id : Int)) := HP.out.cell 49 (by omega)
  have c50 : w1.cell? ⟨B, 50, none⟩ = some (.slice da dt.length dc) := HP.out.cell 50 (by omega)
  have HFO : Hid (FilOk fl) := HPK.out.okk.file
  -- nothing of a main packet
  go_cut [4] (fun s4 wx => ∃ nb : Bool, s4 = .bool nb ∧ Hid (nb = true ↔ sl = 0 ∧ fs = 0 ∧ ss = 0) ∧ w1 = wx)
  case first =>
    by_cases q0 : sl = 0
    · have d0 : (sl == 0) = true := beq_iff_eq.2 q0
      by_cases q1 : fs = 0
      · have d1 : (fs == 0) = true := beq_iff_eq.2 q1
        have HR : Hid ((ss == 0) = true ↔ sl = 0 ∧ fs = 0 ∧ ss = 0) := ⟨fun h => ⟨q0, q1, beq_iff_eq.1 h⟩, fun h => beq_iff_eq.2 h.2.2⟩
        clear q0 q1
        go_wp2_with fail
        go_meet
        exact ⟨_, rfl, HR, rfl⟩
      · have d1 : (fs == 0) = false := beq_eq_false_iff_ne.2 q1
        have HR : Hid (false = true ↔ sl = 0 ∧ fs = 0 ∧ ss = 0) := ⟨fun h => (by cases h), fun h => absurd h.2.1 q1⟩
        clear q0 q1
        go_wp2_with fail
        go_meet
        exact ⟨_, rfl, HR, rfl⟩
    · have d0 : (sl == 0) = false := beq_eq_false_iff_ne.2 q0
      have HR : Hid (false = true ↔ sl = 0 ∧ fs = 0 ∧ ss = 0) := ⟨fun h => (by cases h), fun h => absurd h.1 q0⟩
      clear q0
      go_wp2_with fail
      go_meet
      exact ⟨_, rfl, HR, rfl⟩
  case rest =>
  obtain ⟨nb, rfl, HNB, rfl⟩ := hcut
  -- no file
  obtain ⟨FA, hFA⟩ : ∃ FA, FA = rowArr 35 (filV fl) := ⟨_, rfl⟩
  obtain ⟨fb, hfb⟩ : ∃ fb : Bool, fb = decide (fl = zFil) := ⟨_, rfl⟩
  have HFB : Hid (fb = true ↔ fl = zFil) := by show _ ↔ _; rw [hfb, decide_eq_true_iff]
  have hnf : ∀ w, (binOp .eql 25 (.agg FA) (.agg #[.string { data := #[] }, .int .i64 0, .int .u8 0, .int .u8 0, .int .u8 0, .int .u8 0, .int .u8 0, .int .u8 0, .int .u8 0, .int .u8 0, .int .u8 0, .int .u8 0, .int .u8 0, .int .u8 0, .int .u8 0, .int .u8 0, .int .u8 0, .int .u8 0, .int .u8 0, .int .u8 0, .int .u8 0, .int .u8 0, .int .u8 0, .int .u8 0, .int .u8 0, .int .u8 0, .int .u8 0, .int .u8 0, .int .u8 0, .int .u8 0, .int .u8 0, .int .u8 0, .int .u8 0, .int .u8 0, .int .i64 0])).run Tryd.prog w = .ok (.bool fb) w := fun w => by
    show (binOp .eql 25 (.agg FA) (.agg zF)).run Tryd.prog w = _
    rw [run_eql_struct, hFA, zF_eq, eq_file HFO.out zFil_ok 9997 w, hfb]
    rfl
  have HV : Hid ((rowArr 35 fun j => pkV ⟨set, kd, sl, fs, ss, ix, fl, sm, id, dt⟩ sa sc da dc (13 + j)) = FA) := by show _ = _; rw [pk_file, hFA]
  have HG : Hid (∀ j, j < 35 → w1.cell? ⟨B, 13 + j, none⟩ = some (pkV ⟨set, kd, sl, fs, ss, ix, fl, sm, id, dt⟩ sa sc da dc (13 + j))) := fun j hj => HP.out.cell _ (by omega)
  have HFA := Lib.hid hFA
  clear hFA hfb
  go_upto_region 3 with (refine wpList_load_v (by rfl) 25 _ rfl B 13 35 _ FA HV.out rfl _ HG.out Tryd.underlying25 rfl (by kernel_rfl) ?_)
  clear hnf
  -- no symbol
  go_cut [6] (fun s6 wx => ∃ sb : Bool, s6 = .bool sb ∧ Hid (sb = true ↔ id = 0 ∧ dt = []) ∧ w1 = wx)
  case first =>
    by_cases q0 : id = 0
    · have d0 : ((id : Int) == 0) = true := beq_iff_eq.2 (by omega)
      have HR : Hid (((dt.length : Int) == 0) = true ↔ id = 0 ∧ dt = []) := ⟨fun h => ⟨q0, List.length_eq_zero_iff.1 (by have := beq_iff_eq.1 h; omega)⟩, fun h => beq_iff_eq.2 (by rw [h.2]; rfl)⟩
      clear q0
      go_wp2_with fail
      go_meet
      exact ⟨_, rfl, HR, rfl⟩
    · have d0 : ((id : Int) == 0) = false := beq_eq_false_iff_ne.2 (by omega)
      have HR : Hid (false = true ↔ id = 0 ∧ dt = []) := ⟨fun h => (by cases h), fun h => absurd h.1 q0⟩
      clear q0
      go_wp2_with fail
      go_meet
      exact ⟨_, rfl, HR, rfl⟩
  case rest =>
  obtain ⟨sb, rfl, HSB, rfl⟩ := hcut
  have HSM := Lib.hid HPK.out.sums
  have HDT := Lib.hid HPK.out.data
  have HOKI := Lib.hid HPK.out.okk
  have HLM : Hid (sm.length = 0 ↔ sm = []) := List.length_eq_zero_iff
  subst hk
  have hid := HOKI.out.id
  go_upto_region 19 with fail
  obtain ⟨wd, hwd⟩ : ∃ wd, wd = w1.drew := ⟨_, rfl⟩
  have HBd : Hid (Below w1.heap.size w1 wd) := by rw [hwd]; exact (Below.refl _ _).drew
  have HPd := Lib.hid (HP.out.fr (X := fun _ => False) (Fr.of_below HBd.out) (fun h => h))
  have k12 : ∀ u : KeepW wd fun _ => False, u.v.cell? ⟨B, 12, none⟩ = some (.int .i64 ix) := fun u => (u.cell HPd.out.lt (fun h => h)).trans (HPd.out.cell 12 (by omega))
  have k48 : ∀ u : KeepW wd fun _ => False, u.v.cell? ⟨B, 48, none⟩ = some (.slice sa sm.length sc) := fun u => (u.cell HPd.out.lt (fun h => h)).trans (HPd.out.cell 48 (by omega))
  have k49 : ∀ u : KeepW wd fun _ => False, u.v.cell? ⟨B, 49, none⟩ = some (.int .u32 (id : Int)) := fun u => (u.cell HPd.out.lt (fun h => h)).trans (HPd.out.cell 49 (by omega))
  have k50 : ∀ u : KeepW wd fun _ => False, u.v.cell? ⟨B, 50, none⟩ = some (.slice da dt.length dc) := fun u => (u.cell HPd.out.lt (fun h => h)).trans (HPd.out.cell 50 (by omega))
  have HCL := Lib.hid (refSymbol_any id da dc dt wd hid (HDT.out.below HBd.out) hdl)
  refine growK_begin 33 (fun w' => ∃ u : KeepW wd (fun _ => False), w' = u.v) (by kernel_rfl) ?_
  rw [← hwd]
  clear hwd
  refine growK_take (by kernel_rfl) [0, 1, 2, 3, 5] 29 _ _ (by kernel_rfl) _ (keep_class (Fr.refl _ _)) ?_
  simp only [opsAt, List.getElem?_toArray, List.getElem?_cons_succ, List.getElem?_cons_zero]
  repeat (first | go_big_quiet_step (fail) | quiet_step (fail))
  refine wpQuiet_nil ?_
  refine growK_one 4 (by kernel_rfl) (fun K hK => ?_)
  simp only [stepOf, List.getElem?_toArray, List.getElem?_cons_succ, List.getElem?_cons_zero]
  go_simp
  go_at_call 34
  (with_reducible refine HCL.out.mono ?_)
  rintro e w5 ⟨v, rfl, ha⟩
  have HA : Hid (Acc w w5 v _) := ha.base (HB.out.trans (HBd.out.mono HB.out.size))
  have HF5 : Hid (Fr (fun _ => False) wd w5) := Fr.of_below ha.below
  refine hK.out _ _ (keep_class HF5.out) ?_
  clear hK K ha HCL
  refine growK_take (by kernel_rfl) [6, 7, 8, 9, 10, 11, 12, 13, 14, 15, 16, 17, 18, 19, 20, 21, 22, 23, 24, 25, 26, 27, 28, 29, 32, 30, 31] 1 _ _ (by kernel_rfl) _ (keep_class HF5.out) ?_
  simp only [opsAt, List.getElem?_toArray, List.getElem?_cons_succ, List.getElem?_cons_zero]
  obtain hb0 | hb0 : nb = true ∨ nb = false := by cases nb <;> simp
  · have y0 := HNB.out.1 hb0
    subst hb0
    obtain hb1 | hb1 : fb = true ∨ fb = false := by cases fb <;> simp
    · have y1 := HFB.out.1 hb1
      subst hb1
      by_cases y2 : ix = 0
      · have d2 : (ix == 0) = true := beq_iff_eq.2 y2
        by_cases y3 : sm.length = 0
        · have d3 : ((sm.length : Int) == 0) = true := beq_iff_eq.2 (by omega)
          by_cases y4 : 1 ≤ dt.length
          · have d4 : decide ((1 : Int) ≤ (dt.length : Int)) = true := decide_eq_true (by omega)
            by_cases y5 : dt.length ≤ 256
            · have d5 : decide ((dt.length : Int) ≤ 256) = true := decide_eq_true (by omega)
              have HOK : Hid (pkOk ⟨set, 4, sl, fs, ss, ix, fl, sm, id, dt⟩) := .inr (.inr (.inr ⟨rfl, y0, y1, y2, HLM.out.1 y3, y4, y5⟩))
              clear y0 y1 y2 y3 y4 y5 HNB HFB HSB HLM
              repeat (first | go_big_quiet_step (fail) | quiet_step (fail))
              refine wpQuiet_nil ?_
              clear k12 k48 k49 k50
              refine growK_last (by kernel_rfl) (by kernel_rfl) (fun K hK => ?_)
              simp only [stepOf, List.getElem?_toArray, List.getElem?_cons_succ, List.getElem?_cons_zero]
              go_simp
              refine hK.out _ _ ?_
              clear hK K
              go_wp2_with fail
              go_ret2
              exact bodyPost_yes HOK.out HA.out
            · have n5 := y5
              clear y5
              have d5 : decide ((dt.length : Int) ≤ 256) = false := decide_eq_false (by omega)
              have HNO : Hid (¬ pkOk ⟨set, 4, sl, fs, ss, ix, fl, sm, id, dt⟩) := by
                intro h
                rcases h with h | h | h | h
                · exact absurd h.1 (by simp only; decide)
                · exact absurd h.1 (by simp only; decide)
                · exact absurd h.1 (by simp only; decide)
                · obtain ⟨_, a0, a1, a2, a3, a4, a5⟩ := h
                  exact n5 a5
              clear y0 y1 y2 y3 y4 n5 HNB HFB HSB HLM
              repeat (first | go_big_quiet_step (fail) | quiet_step (fail))
              refine wpQuiet_nil ?_
              clear k12 k48 k49 k50
              refine growK_last (by kernel_rfl) (by kernel_rfl) (fun K hK => ?_)
              simp only [stepOf, List.getElem?_toArray, List.getElem?_cons_succ, List.getElem?_cons_zero]
              go_simp
              refine hK.out _ _ ?_
              clear hK K
              go_wp2_with fail
              go_ret2
              exact bodyPost_no HNO.out HA.out.below
          · have n4 := y4
            clear y4
            have d4 : decide ((1 : Int) ≤ (dt.length : Int)) = false := decide_eq_false (by omega)
            have HNO : Hid (¬ pkOk ⟨set, 4, sl, fs, ss, ix, fl, sm, id, dt⟩) := by
              intro h
              rcases h with h | h | h | h
              · exact absurd h.1 (by simp only; decide)
              · exact absurd h.1 (by simp only; decide)
              · exact absurd h.1 (by simp only; decide)
              · obtain ⟨_, a0, a1, a2, a3, a4, a5⟩ := h
                exact n4 a4
            clear y0 y1 y2 y3 n4 HNB HFB HSB HLM
            repeat (first | go_big_quiet_step (fail) | quiet_step (fail))
            refine wpQuiet_nil ?_
            clear k12 k48 k49 k50
            refine growK_last (by kernel_rfl) (by kernel_rfl) (fun K hK => ?_)
            simp only [stepOf, List.getElem?_toArray, List.getElem?_cons_succ, List.getElem?_cons_zero]
            go_simp
            refine hK.out _ _ ?_
            clear hK K
            go_wp2_with fail
            go_ret2
            exact bodyPost_no HNO.out HA.out.below
        · have n3 := y3
          clear y3
          have d3 : ((sm.length : Int) == 0) = false := beq_eq_false_iff_ne.2 (by omega)
          have HNO : Hid (¬ pkOk ⟨set, 4, sl, fs, ss, ix, fl, sm, id, dt⟩) := by
            intro h
            rcases h with h | h | h | h
            · exact absurd h.1 (by simp only; decide)
            · exact absurd h.1 (by simp only; decide)
            · exact absurd h.1 (by simp only; decide)
            · obtain ⟨_, a0, a1, a2, a3, a4, a5⟩ := h
              exact n3 (HLM.out.2 a3)
          clear y0 y1 y2 n3 HNB HFB HSB HLM
          repeat (first | go_big_quiet_step (fail) | quiet_step (fail))
          refine wpQuiet_nil ?_
          clear k12 k48 k49 k50
          refine growK_last (by kernel_rfl) (by kernel_rfl) (fun K hK => ?_)
          simp only [stepOf, List.getElem?_toArray, List.getElem?_cons_succ, List.getElem?_cons_zero]
          go_simp
          refine hK.out _ _ ?_
          clear hK K
          go_wp2_with fail
          go_ret2
          exact bodyPost_no HNO.out HA.out.below
      · have n2 := y2
        clear y2
        have d2 : (ix == 0) = false := beq_eq_false_iff_ne.2 n2
        have HNO : Hid (¬ pkOk ⟨set, 4, sl, fs, ss, ix, fl, sm, id, dt⟩) := by
          intro h
          rcases h with h | h | h | h
          · exact absurd h.1 (by simp only; decide)
          · exact absurd h.1 (by simp only; decide)
          · exact absurd h.1 (by simp only; decide)
          · obtain ⟨_, a0, a1, a2, a3, a4, a5⟩ := h
            exact n2 a2
        clear y0 y1 n2 HNB HFB HSB HLM
        repeat (first | go_big_quiet_step (fail) | quiet_step (fail))
        refine wpQuiet_nil ?_
        clear k12 k48 k49 k50
        refine growK_last (by kernel_rfl) (by kernel_rfl) (fun K hK => ?_)
        simp only [stepOf, List.getElem?_toArray, List.getElem?_cons_succ, List.getElem?_cons_zero]
        go_simp
        refine hK.out _ _ ?_
        clear hK K
        go_wp2_with fail
        go_ret2
        exact bodyPost_no HNO.out HA.out.below
    · have n1 : ¬ (fl = zFil) := fun h => by have := HFB.out.2 h; rw [hb1] at this; cases this
      subst hb1
      have HNO : Hid (¬ pkOk ⟨set, 4, sl, fs, ss, ix, fl, sm, id, dt⟩) := by
        intro h
        rcases h with h | h | h | h
        · exact absurd h.1 (by simp only; decide)
        · exact absurd h.1 (by simp only; decide)
        · exact absurd h.1 (by simp only; decide)
        · obtain ⟨_, a0, a1, a2, a3, a4, a5⟩ := h
          exact n1 a1
      clear y0 n1 HNB HFB HSB HLM
      repeat (first | go_big_quiet_step (fail) | quiet_step (fail))
      refine wpQuiet_nil ?_
      clear k12 k48 k49 k50
      refine growK_last (by kernel_rfl) (by kernel_rfl) (fun K hK => ?_)
      simp only [stepOf, List.getElem?_toArray, List.getElem?_cons_succ, List.getElem?_cons_zero]
      go_simp
      refine hK.out _ _ ?_
      clear hK K
      go_wp2_with fail
      go_ret2
      exact bodyPost_no HNO.out HA.out.below
  · have n0 : ¬ (sl = 0 ∧ fs = 0 ∧ ss = 0) := fun h => by have := HNB.out.2 h; rw [hb0] at this; cases this
    subst hb0
    have HNO : Hid (¬ pkOk ⟨set, 4, sl, fs, ss, ix, fl, sm, id, dt⟩) := by
      intro h
      rcases h with h | h | h | h
      · exact absurd h.1 (by simp only; decide)
      · exact absurd h.1 (by simp only; decide)
      · exact absurd h.1 (by simp only; decide)
      · obtain ⟨_, a0, a1, a2, a3, a4, a5⟩ := h
        exact n0 a0
    clear  n0 HNB HFB HSB HLM
    repeat (first | go_big_quiet_step (fail) | quiet_step (fail))
    refine wpQuiet_nil ?_
    clear k12 k48 k49 k50
    refine growK_last (by kernel_rfl) (by kernel_rfl) (fun K hK => ?_)
    simp only [stepOf, List.getElem?_toArray, List.getElem?_cons_succ, List.getElem?_cons_zero]
    go_simp
    refine hK.out _ _ ?_
    clear hK K
    go_wp2_with fail
    go_ret2
    exact bodyPost_no HNO.out HA.out.below
end Go.Proofs.YthpfjgbhacdpgaaDoor
end

section
namespace Go.Proofs.YthpfjgbhacdpgaaDoor
open Go.ChangeShapes Go.WideShapes Go.ChangeAt Go.RowKit Go.Joins
set_option linter.unusedVariables false

set_option maxRecDepth 1000000 in
set_option maxHeartbeats 16000000 in
theorem body_k5 (p : Pk) (sa : Option Addr) (sc : Nat) (da : Option Addr) (dc : Nat) (w : World) (hp : PkAt w p sa sc da dc) (hsl : p.sums.length ≤ 1000) (hdl : p.data.length ≤ 900000) (hnl : p.file.name.length ≤ 100000) (hk : p.kind ≠ 1 ∧ p.kind ≠ 2 ∧ p.kind ≠ 3 ∧ p.kind ≠ 4) :
    Calls Tryd.prog 11 #[.agg (rowArr 51 (pkV p sa sc da dc))] w (BodyPost p w) := by
  have mixed : Tryd.prog.follows .mixedOrders = true := by kernel_rfl
  have hHB : Below w.heap.size w (w.alloc (.cells (rowArr 51 (pkV p sa sc da dc)) 30)) := (Below.refl _ _).alloc (Nat.le_refl _) _
  have hHP : Row (w.alloc (.cells (rowArr 51 (pkV p sa sc da dc)) 30)) w.heap.size 30 51 51 (pkV p sa sc da dc) := Row.of_whole (heap_alloc_last w _)
  have HB := Lib.hid hHB
  have HP := Lib.hid hHP
  have HPK := Lib.hid (hp.below hHB)
  obtain ⟨arr, harr⟩ : ∃ arr, arr = rowArr 51 (pkV p sa sc da dc) := ⟨_, rfl⟩
  rw [← harr] at HB HP HPK ⊢
  clear harr hHB hHP hp
  go_enter Tryd.func11, Tryd.ntmps11
  go_upto_region 1 with fail
  obtain ⟨B, hB⟩ : ∃ B, B = w.heap.size := ⟨_, rfl⟩
  have hwB : w.heap.size ≤ B := by omega
  rw [← hB] at HP ⊢
  generalize w.alloc (.cells arr 30) = w1 at *
  clear hB
  obtain ⟨set, kd, sl, fs, ss, ix, fl, sm, id, dt⟩ := p
  simp only at hsl hdl hnl hk
  have c8 : w1.cell? ⟨B, 8, none⟩ = some (.int .i64 kd) := HP.out.cell 8 (by omega)
  have c9 : w1.cell? ⟨B, 9, none⟩ = some (.int .i64 sl) := HP.out.cell 9 (by omega)
  have c10 : w1.cell? ⟨B, 10, none⟩ = some (.int .i64 fs) := HP.out.cell 10 (by omega)
  have c11 : w1.cell? ⟨B, 11, none⟩ = some (.int .i64 ss) := HP.out.cell 11 (by omega)
  have c12 : w1.cell? ⟨B, 12, none⟩ = some (.int .i64 ix) := HP.out.cell 12 (by omega)
  have c48 : w1.cell? ⟨B, 48, none⟩ = some (.slice sa sm.length sc) := HP.out.cell 48 (by omega)
  have c49 : w1.cell? ⟨B, 49, none⟩ = some (.int .u32 (id : Int)) := HP.out.cell 49 (by omega)
  have c50 : w1.cell? ⟨B, 50, none⟩ = some (.slice da dt.length dc) := HP.out.cell 50 (by omega)
  have HFO : Hid (FilOk fl) := HPK.out.okk.file
  -- nothing of a main packet
  go_cut [4] (fun s4 wx => ∃ nb : Bool, s4 = .bool nb ∧ Hid (nb = true ↔ sl = 0 ∧ fs = 0 ∧ ss = 0) ∧ w1 = wx)
  case first =>
    by_cases q0 : sl = 0
    · have d0 : (sl == 0) = true := beq_iff_eq.2 q0
      by_cases q1 : fs = 0
      · have d1 : (fs == 0) = true := beq_iff_eq.2 q1
        have HR : Hid ((ss == 0) = true ↔ sl = 0 ∧ fs = 0 ∧ ss = 0) := ⟨fun h => ⟨q0, q1, beq_iff_eq.1 h⟩, fun h => beq_iff_eq.2 h.2.2⟩
        clear q0 q1
        go_wp2_with fail
        go_meet
        exact ⟨_, rfl, HR, rfl⟩
      · have d1 : (fs == 0) = false := beq_eq_false_iff_ne.2 q1
        have HR : Hid (false = true ↔ sl = 0 ∧ fs = 0 ∧ ss = 0) := ⟨fun h => (by cases h), fun h => absurd h.2.1 q1⟩
        clear q0 q1
        go_wp2_with fail
        go_meet
        exact ⟨_, rfl, HR, rfl⟩
    · have d0 : (sl == 0) = false := beq_eq_false_iff_ne.2 q0
      have HR : Hid (false = true ↔ sl = 0 ∧ fs = 0 ∧ ss = 0) := ⟨fun h => (by cases h), fun h => absurd h.1 q0⟩
      clear q0
      go_wp2_with fail
      go_meet
      exact ⟨_, rfl, HR, rfl⟩
  case rest =>
  obtain ⟨nb, rfl, HNB, rfl⟩ := hcut
  -- no file
  obtain ⟨FA, hFA⟩ : ∃ FA, FA = rowArr 35 (filV fl) := ⟨_, rfl⟩
  obtain ⟨fb, hfb⟩ : ∃ fb : Bool, fb = decide (fl = zFil) := ⟨_, rfl⟩
  have HFB : Hid (fb = true ↔ fl = zFil) := by show _ ↔ _; rw [hfb, decide_eq_true_iff]
  have hnf : ∀ w, (binOp .eql 25 (.agg FA) (.agg #[.string { data := #[] }, .int .i64 0, .int .u8 0, .int .u8 0, .int .u8 0, .int .u8 0, .int .u8 0, .int .u8 0, .int .u8 0, .int .u8 0, .int .u8 0, .int .u8 0, .int .u8 0, .int .u8 0, .int .u8 0, .int .u8 0, .int .u8 0, .int .u8 0, .int .u8 0, .int .u8 0, .int .u8 0, .int .u8 0, .int .u8 0, .int .u8 0, .int .u8 0, .int .u8 0, .int .u8 0, .int .u8 0, .int .u8 0, .int .u8 0, .int .u8 0, .int .u8 0, .int .u8 0, .int .u8 0, .int .i64 0])).run Tryd.prog w = .ok (.bool fb) w := fun w => by
    show (binOp .eql 25 (.agg FA) (.agg zF)).run Tryd.prog w = _
    rw [run_eql_struct, hFA, zF_eq, eq_file HFO.out zFil_ok 9997 w, hfb]
    rfl
  have HV : Hid ((rowArr 35 fun j => pkV ⟨set, kd, sl, fs, ss, ix, fl, sm, id, dt⟩ sa sc da dc (13 + j)) = FA) := by show _ = _; rw [pk_file, hFA]
  have HG : Hid (∀ j, j < 35 → w1.cell? ⟨B, 13 + j, none⟩ = some (pkV ⟨set, kd, sl, fs, ss, ix, fl, sm, id, dt⟩ sa sc da dc (13 + j))) := fun j hj => HP.out.cell _ (by omega)
  have HFA := Lib.hid hFA
  clear hFA hfb
  go_upto_region 3 with (refine wpList_load_v (by rfl) 25 _ rfl B 13 35 _ FA HV.out rfl _ HG.out Tryd.underlying25 rfl (by kernel_rfl) ?_)
  clear hnf
  -- no symbol
  go_cut [6] (fun s6 wx => ∃ sb : Bool, s6 = .bool sb ∧ Hid (sb = true ↔ id = 0 ∧ dt = []) ∧ w1 = wx)
  case first =>
    by_cases q0 : id = 0
    · have d0 : ((id : Int) == 0) = true := beq_iff_eq.2 (by omega)
      have HR : Hid (((dt.length : Int) == 0) = true ↔ id = 0 ∧ dt = []) := ⟨fun h => ⟨q0, List.length_eq_zero_iff.1 (by have := beq_iff_eq.1 h; omega)⟩, fun h => beq_iff_eq.2 (by rw [h.2]; rfl)⟩
      clear q0
      go_wp2_with fail
      go_meet
      exact ⟨_, rfl, HR, rfl⟩
    · have d0 : ((id : Int) == 0) = false := beq_eq_false_iff_ne.2 (by omega)
      have HR : Hid (false = true ↔ id = 0 ∧ dt = []) := ⟨fun h => (by cases h), fun h => absurd h.1 q0⟩
      clear q0
      go_wp2_with fail
      go_meet
      exact ⟨_, rfl, HR, rfl⟩
  case rest =>
  obtain ⟨sb, rfl, HSB, rfl⟩ := hcut
  have HSM := Lib.hid HPK.out.sums
  have HDT := Lib.hid HPK.out.data
  have HOKI := Lib.hid HPK.out.okk
  have HLM : Hid (sm.length = 0 ↔ sm = []) := List.length_eq_zero_iff
  obtain ⟨h1, h2, h3, h4⟩ := hk
  have g1 : (kd == 1) = false := beq_eq_false_iff_ne.2 h1
  have g2 : (kd == 2) = false := beq_eq_false_iff_ne.2 h2
  have g3 : (kd == 3) = false := beq_eq_false_iff_ne.2 h3
  have g4 : (kd == 4) = false := beq_eq_false_iff_ne.2 h4
  have HNO : Hid (¬ pkOk ⟨set, kd, sl, fs, ss, ix, fl, sm, id, dt⟩) := by
    intro h
    rcases h with h | h | h | h
    · exact h1 h.1
    · exact h2 h.1
    · exact h3 h.1
    · exact h4 h.1
  clear h1 h2 h3 h4
  go_wp2_with fail
  go_ret2
  exact bodyPost_no HNO.out HB.out
end Go.Proofs.YthpfjgbhacdpgaaDoor
end

section
namespace Go.Proofs.YthpfjgbhacdpgaaDoor
open Go.ChangeShapes Go.WideShapes Go.ChangeAt Go.RowKit Go.Joins
set_option linter.unusedVariables false

theorem body_any (p : Pk) (sa : Option Addr) (sc : Nat) (da : Option Addr) (dc : Nat) (w : World) (hp : PkAt w p sa sc da dc) (hsl : p.sums.length ≤ 1000) (hdl : p.data.length ≤ 900000) (hnl : p.file.name.length ≤ 100000) :
    Calls Tryd.prog 11 #[.agg (rowArr 51 (pkV p sa sc da dc))] w (BodyPost p w) := by
  by_cases k1 : p.kind = 1
  · exact body_k1 p sa sc da dc w hp hsl hdl hnl k1
  by_cases k2 : p.kind = 2
  · exact body_k2 p sa sc da dc w hp hsl hdl hnl k2
  by_cases k3 : p.kind = 3
  · exact body_k3 p sa sc da dc w hp hsl hdl hnl k3
  by_cases k4 : p.kind = 4
  · exact body_k4 p sa sc da dc w hp hsl hdl hnl k4
  exact body_k5 p sa sc da dc w hp hsl hdl hnl ⟨k1, k2, k3, k4⟩

/-- The packet of awake. -/
def awPk : Pk := ⟨List.replicate 8 0, 4, 0, 0, 0, 0, zFil, [], 0, [1]⟩
theorem aw_in : PkIn awPk := ⟨rfl, by intro y hy; simp [awPk] at hy; omega, i64R_small 4 (by decide), i64R_small 0 (by decide), i64R_small 0 (by decide), i64R_small 0 (by decide), i64R_small 0 (by decide), zFil_ok, by simp [awPk], by simp [awPk], by intro y hy; simp [awPk] at hy; omega⟩
theorem aw_ok : pkOk awPk := .inr (.inr (.inr ⟨rfl, ⟨rfl, rfl, rfl⟩, rfl, rfl, rfl, by simp [awPk], by simp [awPk]⟩))
theorem aw_len : (pkBytes awPk).length = 54 := by
  unfold pkBytes
  rw [bytes_len aw_in.set8]
  unfold pkBody
  rw [if_neg (by decide), if_neg (by decide), if_neg (by decide)]
  unfold symbolN
  rw [List.length_append, wideN_len]
  rfl
theorem dec_nil : decN [] = .form := by
  unfold decN
  rw [if_pos (by rfl)]
set_option maxRecDepth 1000000 in
set_option maxHeartbeats 4000000 in
theorem awake14_any (w : World) (ht : Tabs w) :
    Calls Tryd.prog 8 #[] w fun e w' => e = .returned (.bool true) ∧ Below w.heap.size w w' := by
  have HD := Lib.hid (decode_any none 0 [] w (nil_sl w) (by simp) ht)
  have HT := Lib.hid ht
  obtain ⟨ZA, hZA⟩ : ∃ ZA, ZA = rowArr 51 (pkV zPk none 0 none 0) := ⟨_, rfl⟩
  have HZ1 : Hid (ZA.all (·.oneCell') = true) := by show _ = _; rw [hZA]; exact oneCell_pk _ _ _ _ _
  have HZS : Hid (ZA.size = 51) := by show _ = _; rw [hZA, rowArr_size]
  have HD2 : Hid (Calls Tryd.prog 12 #[.slice none 0 0] w fun e w' => e = .returned (.tuple #[.agg ZA, .int .i64 0, .int .i64 2]) ∧ Below w.heap.size w w') := HD.out.mono fun e w' h => by
    unfold DecPost at h
    rw [dec_nil] at h
    rw [hZA]
    exact h
  clear HD hZA ht
  go_enter Tryd.func8, Tryd.ntmps8
  go_upto_region 2 with (first
    | (go_at_call 12; (with_reducible refine HD2.out.mono ?_); rintro e w1 ⟨rfl, b1⟩; have HB1 := Lib.hid b1; clear b1 HD2; have HALL : Hid (∀ c : Array Value, (w1.alloc (.cells c 30)).heap[w1.heap.size]? = some (.cells c 30 (0, 0))) := (fun c => heap_alloc_last w1 _); have HALB : Hid (∀ c : Array Value, Below w1.heap.size w1 (w1.alloc (.cells c 30))) := (fun c => (Below.refl _ _).alloc (Nat.le_refl _) _))
    | (refine wpList_store_arr rfl 30 _ _ rfl w1.heap.size ZA rfl rfl 30 _ (HALL.out _) (by rw [HZS.out]; kernel_rfl) (by rw [HZS.out]; rfl) HZ1.out ?_; intro w2 HC2 hf2; have HB2 : Hid (Below w1.heap.size w1 w2) := (HALB.out _).trans (hf2.out.below (HALB.out _).size (fun k hk e => by omega)); clear hf2 HALL HALB HC2))
  have HB12 : Hid (Below w.heap.size w w2) := HB1.out.trans (HB2.out.mono HB1.out.size)
  obtain ⟨p1, hp1⟩ : ∃ p1, p1 = w1.heap.size := ⟨_, rfl⟩
  rw [← hp1]
  clear hp1
  have hBD : Below w2.heap.size w2 (w2.alloc (.cells #[.int .u8 1] 5)) := (Below.refl _ _).alloc (Nat.le_refl _) _
  have hSD : Sl (w2.alloc (.cells #[.int .u8 1] 5)) (some ⟨w2.heap.size, 0, none⟩) 1 [1] := Row.sl (row_of_cells w2 [1] _ rfl) rfl (by intro x hx; simp at hx; omega) (by unfold maxLen; simp)
  have HE : Hid (Calls Tryd.prog 10 #[.agg #[.int .u8 0, .int .u8 0, .int .u8 0, .int .u8 0, .int .u8 0, .int .u8 0, .int .u8 0, .int .u8 0, .int .i64 4, .int .i64 0, .int .i64 0, .int .i64 0, .int .i64 0, .string { data := #[] }, .int .i64 0, .int .u8 0, .int .u8 0, .int .u8 0, .int .u8 0, .int .u8 0, .int .u8 0, .int .u8 0, .int .u8 0, .int .u8 0, .int .u8 0, .int .u8 0, .int .u8 0, .int .u8 0, .int .u8 0, .int .u8 0, .int .u8 0, .int .u8 0, .int .u8 0, .int .u8 0, .int .u8 0, .int .u8 0, .int .u8 0, .int .u8 0, .int .u8 0, .int .u8 0, .int .u8 0, .int .u8 0, .int .u8 0, .int .u8 0, .int .u8 0, .int .u8 0, .int .u8 0, .int .i64 0, .slice none 0 0, .int .u32 0, .slice (some ⟨w2.heap.size, 0, none⟩) 1 1]] (w2.alloc (.cells #[.int .u8 1] 5)) (EncPost awPk (w2.alloc (.cells #[.int .u8 1] 5)))) :=
    encode_any awPk none 0 (some ⟨w2.heap.size, 0, none⟩) 1 _ ⟨aw_in, nil_sms _, hSD⟩ (by unfold tellQ; simp [awPk, zFil]) (HT.out.below (HB12.out.trans (hBD.mono HB12.out.size)))
  have HBD := Lib.hid hBD
  clear hBD hSD HB1 HB2 HT HZ1 HZS
  go_wp2_with fail
  (with_reducible refine HE.out.mono ?_)
  rintro e w3 ⟨b3, hy, -⟩
  obtain ⟨a3, c3, rfl, -⟩ := hy aw_ok
  have HB3 : Hid (Below w.heap.size w w3) := HB12.out.trans ((HBD.out.trans (b3.mono HBD.out.size)).mono HB12.out.size)
  rw [aw_len]
  clear b3 hy HE HBD
  go_wp2_with fail
  go_ret
  exact ⟨rfl, HB3.out⟩
end Go.Proofs.YthpfjgbhacdpgaaDoor
end
