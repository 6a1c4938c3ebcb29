/-
  Layer 14's law function body.
  Layer 14's law function body.
-/
import Derived.Test.YthpfjgbhacdpgaaDoorMg21
section
namespace Go.Proofs.YthpfjgbhacdpgaaDoor
open Go.ChangeShapes Go.WideShapes Go.ChangeAt Go.RowKit Go.Joins
set_option linter.unusedVariables false

set_option maxRecDepth 1000000 in
set_option maxHeartbeats 16000000 in
theorem body_k2 (p : Pk) (sa : Option Addr) (sc : Nat) (da : Option Addr) (dc : Nat) (w : World) (hp : PkAt w p sa sc da dc) (hsl : p.sums.length ≤ 1000) (hdl : p.data.length ≤ 900000) (hnl : p.file.name.length ≤ 100000) (hk : p.kind = 2) :
    Calls Tryd.prog 11 #[.agg (rowArr 51 (pkV p sa sc da dc))] w (BodyPost p w) := by
  have mixed : Tryd.prog.follows .mixedOrders = true := by kernel_rfl
  have hHB : Below w.heap.size w (w.alloc (.cells (rowArr 51 (pkV p sa sc da dc)) 30)) := (Below.refl _ _).alloc (Nat.le_refl _) _
  have hHP : Row (w.alloc (.cells (rowArr 51 (pkV p sa sc da dc)) 30)) w.heap.size 30 51 51 (pkV p sa sc da dc) := Row.of_whole (heap_alloc_last w _)
  have HB := Lib.hid hHB
  have HP := Lib.hid hHP
  have HPK := Lib.hid (hp.below hHB)
  obtain ⟨arr, harr⟩ : ∃ arr, arr = rowArr 51 (pkV p sa sc da dc) := ⟨_, rfl⟩
  rw [← harr] at HB HP HPK ⊢
  clear harr hHB hHP hp
  go_enter Tryd.func11, Tryd.ntmps11
  go_upto_region 1 with fail
  obtain ⟨B, hB⟩ : ∃ B, B = w.heap.size := ⟨_, rfl⟩
  have hwB : w.heap.size ≤ B := by omega
  rw [← hB] at HP ⊢
  generalize w.alloc (.cells arr 30) = w1 at *
  clear hB
  obtain ⟨set, kd, sl, fs, ss, ix, fl, sm, id, dt⟩ := p
  simp only at hsl hdl hnl hk
  have c8 : w1.cell? ⟨B, 8, none⟩ = some (.int .i64 kd) := HP.out.cell 8 (by omega)
  have c9 : w1.cell? ⟨B, 9, none⟩ = some (.int .i64 sl) := HP.out.cell 9 (by omega)
  have c10 : w1.cell? ⟨B, 10, none⟩ = some (.int .i64 fs) := HP.out.cell 10 (by omega)
  have c11 : w1.cell? ⟨B, 11, none⟩ = some (.int .i64 ss) := HP.out.cell 11 (by omega)
  have c12 : w1.cell? ⟨B, 12, none⟩ = some (.int .i64 ix) := HP.out.cell 12 (by omega)
  have c48 : w1.cell? ⟨B, 48, none⟩ = some (.slice sa sm.length sc) := HP.out.cell 48 (by omega)
  have c49 : w1.cell? ⟨B, 49, none⟩ = some (.int .u32 (id : Int)) := HP.out.cell 49 (by omega)
  have c50 : w1.cell? ⟨B, 50, none⟩ = some (.slice da dt.length dc) := HP.out.cell 50 (by omega)
  have HFO : Hid (FilOk fl) := HPK.out.okk.file
  -- nothing of a main packet
  go_cut [4] (fun s4 wx => ∃ nb : Bool, s4 = .bool nb ∧ Hid (nb = true ↔ sl = 0 ∧ fs = 0 ∧ ss = 0) ∧ w1 = wx)
  case first =>
    by_cases q0 : sl = 0
    · have d0 : (sl == 0) = true := beq_iff_eq.2 q0
      by_cases q1 : fs = 0
      · have d1 : (fs == 0) = true := beq_iff_eq.2 q1
        have HR : Hid ((ss == 0) = true ↔ sl = 0 ∧ fs = 0 ∧ ss = 0) := ⟨fun h => ⟨q0, q1, beq_iff_eq.1 h⟩, fun h => beq_iff_eq.2 h.2.2⟩
        clear q0 q1
        go_wp2_with fail
        go_meet
        exact ⟨_, rfl, HR, rfl⟩
      · have d1 : (fs == 0) = false := beq_eq_false_iff_ne.2 q1
        have HR : Hid (false = true ↔ sl = 0 ∧ fs = 0 ∧ ss = 0) := ⟨fun h => (by cases h), fun h => absurd h.2.1 q1⟩
        clear q0 q1
        go_wp2_with fail
        go_meet
        exact ⟨_, rfl, HR, rfl⟩
    · have d0 : (sl == 0) = false := beq_eq_false_iff_ne.2 q0
      have HR : Hid (false = true ↔ sl = 0 ∧ fs = 0 ∧ ss = 0) := ⟨fun h => (by cases h), fun h => absurd h.1 q0⟩
      clear q0
      go_wp2_with fail
      go_meet
      exact ⟨_, rfl, HR, rfl⟩
  case rest =>
  obtain ⟨nb, rfl, HNB, rfl⟩ := hcut
  -- no file
  obtain ⟨FA, hFA⟩ : ∃ FA, FA = rowArr 35 (filV fl) := ⟨_, rfl⟩
  obtain ⟨fb, hfb⟩ : ∃ fb : Bool, fb = decide (fl = zFil) := ⟨_, rfl⟩
  have HFB : Hid (fb = true ↔ fl = zFil) := by show _ ↔ _; rw [hfb, decide_eq_true_iff]
  have hnf : ∀ w, (binOp .eql 25 (.agg FA) (.agg #[.string { data := #[] }, .int .i64 0, .int .u8 0, .int .u8 0, .int .u8 0, .int .u8 0, .int .u8 0, .int .u8 0, .int .u8 0, .int .u8 0, .int .u8 0, .int .u8 0, .int .u8 0, .int .u8 0, .int .u8 0, .int .u8 0, .int .u8 0, .int .u8 0, .int .u8 0, .int .u8 0, .int .u8 0, .int .u8 0, .int .u8 0, .int .u8 0, .int .u8 0, .int .u8 0, .int .u8 0, .int .u8 0, .int .u8 0, .int .u8 0, .int .u8 0, .int .u8 0, .int .u8 0, .int .u8 0, .int .i64 0])).run Tryd.prog w = .ok (.bool fb) w := fun w => by
    show (binOp .eql 25 (.agg FA) (.agg zF)).run Tryd.prog w = _
    rw [run_eql_struct, hFA, zF_eq, eq_file HFO.out zFil_ok 9997 w, hfb]
    rfl
  have HV : Hid ((rowArr 35 fun j => pkV ⟨set, kd, sl, fs, ss, ix, fl, sm, id, dt⟩ sa sc da dc (13 + j)) = FA) := by show _ = _; rw [pk_file, hFA]
  have HG : Hid (∀ j, j < 35 → w1.cell? ⟨B, 13 + j, none⟩ = some (pkV ⟨set, kd, sl, fs, ss, ix, fl, sm, id, dt⟩ sa sc da dc (13 + j))) := fun j hj => HP.out.cell _ (by omega)
  have HFA := Lib.hid hFA
  clear hFA hfb
  go_upto_region 3 with (refine wpList_load_v (by rfl) 25 _ rfl B 13 35 _ FA HV.out rfl _ HG.out Tryd.underlying25 rfl (by kernel_rfl) ?_)
  clear hnf
  -- no symbol
  go_cut [6] (fun s6 wx => ∃ sb : Bool, s6 = .bool sb ∧ Hid (sb = true ↔ id = 0 ∧ dt = []) ∧ w1 = wx)
  case first =>
    by_cases q0 : id = 0
    · have d0 : ((id : Int) == 0) = true := beq_iff_eq.2 (by omega)
      have HR : Hid (((dt.length : Int) == 0) = true ↔ id = 0 ∧ dt = []) := ⟨fun h => ⟨q0, List.length_eq_zero_iff.1 (by have := beq_iff_eq.1 h; omega)⟩, fun h => beq_iff_eq.2 (by rw [h.2]; rfl)⟩
      clear q0
      go_wp2_with fail
      go_meet
      exact ⟨_, rfl, HR, rfl⟩
    · have d0 : ((id : Int) == 0) = false := beq_eq_false_iff_ne.2 (by omega)
      have HR : Hid (false = true ↔ id = 0 ∧ dt = []) := ⟨fun h => (by cases h), fun h => absurd h.1 q0⟩
      clear q0
      go_wp2_with fail
      go_meet
      exact ⟨_, rfl, HR, rfl⟩
  case rest =>
  obtain ⟨sb, rfl, HSB, rfl⟩ := hcut
  have HSM := Lib.hid HPK.out.sums
  have HDT := Lib.hid HPK.out.data
  have HOKI := Lib.hid HPK.out.okk
  have HLM : Hid (sm.length = 0 ↔ sm = []) := List.length_eq_zero_iff
  subst hk
  have HFAs : Hid (FA.size = 35) := by show _ = _; rw [HFA.out, rowArr_size]
  have HFA1 : Hid (FA.all (·.oneCell') = true) := by show _ = _; rw [HFA.out]; exact oneCell_fil fl
  have HALL : Hid (∀ c : Array Value, (w1.alloc (.cells c 25)).heap[w1.heap.size]? = some (.cells c 25 (0, 0))) := fun c => heap_alloc_last w1 _
  have HALB : Hid (∀ c : Array Value, Below w1.heap.size w1 (w1.alloc (.cells c 25))) := fun c => (Below.refl _ _).alloc (Nat.le_refl _) _
  go_upto_region 9 with (first
    | (refine wpList_load_v (by rfl) 25 _ rfl B 13 35 _ FA HV.out rfl _ HG.out Tryd.underlying25 rfl (by kernel_rfl) ?_)
    | (refine wpList_store_arr rfl 25 _ _ rfl w1.heap.size FA rfl rfl 25 _ (HALL.out _) (by rw [HFAs.out]; kernel_rfl) (by rw [HFAs.out]; rfl) HFA1.out ?_; intro w7 HC7 hf7; have HB17 : Hid (Below w1.heap.size w1 w7) := (HALB.out _).trans (hf7.out.below (HALB.out _).size (fun k hk e => by omega)); clear hf7 HALL HALB))
  obtain ⟨fx, hfx⟩ : ∃ fx, fx = w1.heap.size := ⟨_, rfl⟩
  rw [← hfx] at HC7 ⊢
  have HP7 := Lib.hid (HP.out.fr (X := fun _ => False) (Fr.of_below HB17.out) (fun h => h))
  have HB7 : Hid (Below w.heap.size w w7) := HB.out.trans (HB17.out.mono HB.out.size)
  have HF7 : Hid (Row w7 fx 25 35 35 (filV fl)) := by
    have := HC7.out
    rw [HFA.out] at this
    exact Row.of_whole this
  clear hfx c8 c9 c10 c11 c12 c48 c49 c50 HG HV HB17
  have c12 : w7.cell? ⟨B, 12, none⟩ = some (.int .i64 ix) := HP7.out.cell 12 (by omega)
  have HCL := Lib.hid (refFile_any ix fl w7 HOKI.out.index HFO.out hnl)
  rw [← HFA.out] at HCL
  go_wp2_with (refine wpList_load_row rfl 25 _ rfl fx rfl 25 FA (0, 0) _ HC7.out Tryd.underlying25 rfl (by rw [HFAs.out]; kernel_rfl) ?_)
  (with_reducible refine HCL.out.mono ?_)
  rintro e w8 ⟨v, rfl, ha⟩
  have HA : Hid (Acc w w8 v _) := ha.base HB7.out
  have HP8 := Lib.hid (HP7.out.fr (X := fun _ => False) (Fr.of_below ha.below) (fun h => h))
  have HF8 := Lib.hid (HF7.out.fr (X := fun _ => False) (Fr.of_below ha.below) (fun h => h))
  clear c12 ha HCL HP7 HF7 HC7 HB7
  have c12 : w8.cell? ⟨B, 12, none⟩ = some (.int .i64 ix) := HP8.out.cell 12 (by omega)
  have c48 : w8.cell? ⟨B, 48, none⟩ = some (.slice sa sm.length sc) := HP8.out.cell 48 (by omega)
  have e0 : w8.cell? ⟨fx, 0, none⟩ = some (.string (strOf fl.name)) := HF8.out.cell 0 (by omega)
  have e1 : w8.cell? ⟨fx, 1, none⟩ = some (.int .i64 fl.size) := HF8.out.cell 1 (by omega)
  have e3 : w8.cell? ⟨fx, 34, none⟩ = some (.int .i64 fl.first) := HF8.out.cell 34 (by omega)
  have hsz := strOf_size fl.name
  obtain ⟨nl, hnle⟩ : ∃ nl, nl = fl.name.length := ⟨_, rfl⟩
  rw [← hnle] at hsz hnl
  have HNL := Lib.hid hnle
  have hlm := HSM.out.lt
  clear hnle HFA HFAs HFA1
  obtain hb0 | hb0 : nb = true ∨ nb = false := by cases nb <;> simp
  · have y0 := HNB.out.1 hb0
    subst hb0
    by_cases y1 : 0 ≤ ix
    · have d1 : decide ((0 : Int) ≤ ix) = true := decide_eq_true y1
      by_cases y2 : ix < 256
      · have d2 : decide (ix < 256) = true := decide_eq_true y2
        by_cases y3 : nl < 256
        · have d3 : decide ((nl : Int) < 256) = true := decide_eq_true (by omega)
          by_cases y4 : 0 ≤ fl.size
          · have d4 : decide ((0 : Int) ≤ fl.size) = true := decide_eq_true y4
            by_cases y5 : fl.size < 4294967296
            · have d5 : decide (fl.size < 4294967296) = true := decide_eq_true y5
              by_cases y6 : 0 ≤ fl.first
              · have d6 : decide ((0 : Int) ≤ fl.first) = true := decide_eq_true y6
                by_cases y7 : fl.first < 65536
                · have d7 : decide (fl.first < 65536) = true := decide_eq_true y7
                  by_cases y8 : sm.length = 0
                  · have d8 : ((sm.length : Int) == 0) = true := beq_iff_eq.2 (by omega)
                    obtain hb9 | hb9 : sb = true ∨ sb = false := by cases sb <;> simp
                    · have y9 := HSB.out.1 hb9
                      subst hb9
                      have HOK : Hid (pkOk ⟨set, 2, sl, fs, ss, ix, fl, sm, id, dt⟩) := .inr (.inl ⟨rfl, y0, ⟨y1, y2⟩, (by have := HNL.out; show fl.name.length < 256; omega), ⟨y4, y5⟩, ⟨y6, y7⟩, HLM.out.1 y8, y9⟩)
                      clear y0 y1 y2 y3 y4 y5 y6 y7 y8 y9 HNB HFB HSB HLM
                      go_wp2_with fail
                      go_ret2
                      exact bodyPost_yes HOK.out HA.out
                    · have n9 : ¬ (id = 0 ∧ dt = []) := fun h => by have := HSB.out.2 h; rw [hb9] at this; cases this
                      subst hb9
                      have HNO : Hid (¬ pkOk ⟨set, 2, sl, fs, ss, ix, fl, sm, id, dt⟩) := by
                        intro h
                        rcases h with h | h | h | h
                        · exact absurd h.1 (by simp only; decide)
                        · obtain ⟨_, a0, ⟨a1, a2⟩, a3, ⟨a4, a5⟩, ⟨a6, a7⟩, a8, a9⟩ := h
                          exact n9 a9
                        · exact absurd h.1 (by simp only; decide)
                        · exact absurd h.1 (by simp only; decide)
                      clear y0 y1 y2 y3 y4 y5 y6 y7 y8 n9 HNB HFB HSB HLM
                      go_wp2_with fail
                      go_ret2
                      exact bodyPost_no HNO.out HA.out.below
                  · have n8 := y8
                    clear y8
                    have d8 : ((sm.length : Int) == 0) = false := beq_eq_false_iff_ne.2 (by omega)
                    have HNO : Hid (¬ pkOk ⟨set, 2, sl, fs, ss, ix, fl, sm, id, dt⟩) := by
                      intro h
                      rcases h with h | h | h | h
                      · exact absurd h.1 (by simp only; decide)
                      · obtain ⟨_, a0, ⟨a1, a2⟩, a3, ⟨a4, a5⟩, ⟨a6, a7⟩, a8, a9⟩ := h
                        exact n8 (HLM.out.2 a8)
                      · exact absurd h.1 (by simp only; decide)
                      · exact absurd h.1 (by simp only; decide)
                    clear y0 y1 y2 y3 y4 y5 y6 y7 n8 HNB HFB HSB HLM
                    go_wp2_with fail
                    go_ret2
                    exact bodyPost_no HNO.out HA.out.below
                · have n7 := y7
                  clear y7
                  have d7 : decide (fl.first < 65536) = false := decide_eq_false n7
                  have HNO : Hid (¬ pkOk ⟨set, 2, sl, fs, ss, ix, fl, sm, id, dt⟩) := by
                    intro h
                    rcases h with h | h | h | h
                    · exact absurd h.1 (by simp only; decide)
                    · obtain ⟨_, a0, ⟨a1, a2⟩, a3, ⟨a4, a5⟩, ⟨a6, a7⟩, a8, a9⟩ := h
                      exact n7 a7
                    · exact absurd h.1 (by simp only; decide)
                    · exact absurd h.1 (by simp only; decide)
                  clear y0 y1 y2 y3 y4 y5 y6 n7 HNB HFB HSB HLM
                  go_wp2_with fail
                  go_ret2
                  exact bodyPost_no HNO.out HA.out.below
              · have n6 := y6
                clear y6
                have d6 : decide ((0 : Int) ≤ fl.first) = false := decide_eq_false n6
                have HNO : Hid (¬ pkOk ⟨set, 2, sl, fs, ss, ix, fl, sm, id, dt⟩) := by
                  intro h
                  rcases h with h | h | h | h
                  · exact absurd h.1 (by simp only; decide)
                  · obtain ⟨_, a0, ⟨a1, a2⟩, a3, ⟨a4, a5⟩, ⟨a6, a7⟩, a8, a9⟩ := h
                    exact n6 a6
                  · exact absurd h.1 (by simp only; decide)
                  · exact absurd h.1 (by simp only; decide)
                clear y0 y1 y2 y3 y4 y5 n6 HNB HFB HSB HLM
                go_wp2_with fail
                go_ret2
                exact bodyPost_no HNO.out HA.out.below
            · have n5 := y5
              clear y5
              have d5 : decide (fl.size < 4294967296) = false := decide_eq_false n5
              have HNO : Hid (¬ pkOk ⟨set, 2, sl, fs, ss, ix, fl, sm, id, dt⟩) := by
                intro h
                rcases h with h | h | h | h
                · exact absurd h.1 (by simp only; decide)
                · obtain ⟨_, a0, ⟨a1, a2⟩, a3, ⟨a4, a5⟩, ⟨a6, a7⟩, a8, a9⟩ := h
                  exact n5 a5
                · exact absurd h.1 (by simp only; decide)
                · exact absurd h.1 (by simp only; decide)
              clear y0 y1 y2 y3 y4 n5 HNB HFB HSB HLM
              go_wp2_with fail
              go_ret2
              exact bodyPost_no HNO.out HA.out.below
          · have n4 := y4
            clear y4
            have d4 : decide ((0 : Int) ≤ fl.size) = false := decide_eq_false n4
            have HNO : Hid (¬ pkOk ⟨set, 2, sl, fs, ss, ix, fl, sm, id, dt⟩) := by
              intro h
              rcases h with h | h | h | h
              · exact absurd h.1 (by simp only; decide)
              · obtain ⟨_, a0, ⟨a1, a2⟩, a3, ⟨a4, a5⟩, ⟨a6, a7⟩, a8, a9⟩ := h
                exact n4 a4
              · exact absurd h.1 (by simp only; decide)
              · exact absurd h.1 (by simp only; decide)
            clear y0 y1 y2 y3 n4 HNB HFB HSB HLM
            go_wp2_with fail
            go_ret2
            exact bodyPost_no HNO.out HA.out.below
        · have n3 := y3
          clear y3
          have d3 : decide ((nl : Int) < 256) = false := decide_eq_false (by omega)
          have HNO : Hid (¬ pkOk ⟨set, 2, sl, fs, ss, ix, fl, sm, id, dt⟩) := by
            intro h
            rcases h with h | h | h | h
            · exact absurd h.1 (by simp only; decide)
            · obtain ⟨_, a0, ⟨a1, a2⟩, a3, ⟨a4, a5⟩, ⟨a6, a7⟩, a8, a9⟩ := h
              exact n3 (by have := HNL.out; have a3 : fl.name.length < 256 := a3; omega)
            · exact absurd h.1 (by simp only; decide)
            · exact absurd h.1 (by simp only; decide)
          clear y0 y1 y2 n3 HNB HFB HSB HLM
          go_wp2_with fail
          go_ret2
          exact bodyPost_no HNO.out HA.out.below
      · have n2 := y2
        clear y2
        have d2 : decide (ix < 256) = false := decide_eq_false n2
        have HNO : Hid (¬ pkOk ⟨set, 2, sl, fs, ss, ix, fl, sm, id, dt⟩) := by
          intro h
          rcases h with h | h | h | h
          · exact absurd h.1 (by simp only; decide)
          · obtain ⟨_, a0, ⟨a1, a2⟩, a3, ⟨a4, a5⟩, ⟨a6, a7⟩, a8, a9⟩ := h
            exact n2 a2
          · exact absurd h.1 (by simp only; decide)
          · exact absurd h.1 (by simp only; decide)
        clear y0 y1 n2 HNB HFB HSB HLM
        go_wp2_with fail
        go_ret2
        exact bodyPost_no HNO.out HA.out.below
    · have n1 := y1
      clear y1
      have d1 : decide ((0 : Int) ≤ ix) = false := decide_eq_false n1
      have HNO : Hid (¬ pkOk ⟨set, 2, sl, fs, ss, ix, fl, sm, id, dt⟩) := by
        intro h
        rcases h with h | h | h | h
        · exact absurd h.1 (by simp only; decide)
        · obtain ⟨_, a0, ⟨a1, a2⟩, a3, ⟨a4, a5⟩, ⟨a6, a7⟩, a8, a9⟩ := h
          exact n1 a1
        · exact absurd h.1 (by simp only; decide)
        · exact absurd h.1 (by simp only; decide)
      clear y0 n1 HNB HFB HSB HLM
      go_wp2_with fail
      go_ret2
      exact bodyPost_no HNO.out HA.out.below
  · have n0 : ¬ (sl = 0 ∧ fs = 0 ∧ ss = 0) := fun h => by have := HNB.out.2 h; rw [hb0] at this; cases this
    subst hb0
    have HNO : Hid (¬ pkOk ⟨set, 2, sl, fs, ss, ix, fl, sm, id, dt⟩) := by
      intro h
      rcases h with h | h | h | h
      · exact absurd h.1 (by simp only; decide)
      · obtain ⟨_, a0, ⟨a1, a2⟩, a3, ⟨a4, a5⟩, ⟨a6, a7⟩, a8, a9⟩ := h
        exact n0 a0
      · exact absurd h.1 (by simp only; decide)
      · exact absurd h.1 (by simp only; decide)
    clear  n0 HNB HFB HSB HLM
    go_wp2_with fail
    go_ret2
    exact bodyPost_no HNO.out HA.out.below
end Go.Proofs.YthpfjgbhacdpgaaDoor
end

section
namespace Go.Proofs.YthpfjgbhacdpgaaDoor
open Go.ChangeShapes Go.WideShapes Go.ChangeAt Go.RowKit Go.Joins
set_option linter.unusedVariables false

set_option maxRecDepth 1000000 in
set_option maxHeartbeats 16000000 in
theorem body_k3 (p : Pk) (sa : Option Addr) (sc : Nat) (da : Option Addr) (dc : Nat) (w : World) (hp : PkAt w p sa sc da dc) (hsl : p.sums.length ≤ 1000) (hdl : p.data.length ≤ 900000) (hnl : p.file.name.length ≤ 100000) (hk : p.kind = 3) :
    Calls Tryd.prog 11 #[.agg (rowArr 51 (pkV p sa sc da dc))] w (BodyPost p w) := by
  have mixed : Tryd.prog.follows .mixedOrders = true := by kernel_rfl
  have hHB : Below w.heap.size w (w.alloc (.cells (rowArr 51 (pkV p sa sc da dc)) 30)) := (Below.refl _ _).alloc (Nat.le_refl _) _
  have hHP : Row (w.alloc (.cells (rowArr 51 (pkV p sa sc da dc)) 30)) w.heap.size 30 51 51 (pkV p sa sc da dc) := Row.of_whole (heap_alloc_last w _)
  have HB := Lib.hid hHB
  have HP := Lib.hid hHP
  have HPK := Lib.hid (hp.below hHB)
  obtain ⟨arr, harr⟩ : ∃ arr, arr = rowArr 51 (pkV p sa sc da dc) := ⟨_, rfl⟩
  rw [← harr] at HB HP HPK ⊢
  clear harr hHB hHP hp
  go_enter Tryd.func11, Tryd.ntmps11
  go_upto_region 1 with fail
  obtain ⟨B, hB⟩ : ∃ B, B = w.heap.size := ⟨_, rfl⟩
  have hwB : w.heap.size ≤ B := by omega
  rw [← hB] at HP ⊢
  generalize w.alloc (.cells arr 30) = w1 at *
  clear hB
  obtain ⟨set, kd, sl, fs, ss, ix, fl, sm, id, dt⟩ := p
  simp only at hsl hdl hnl hk
  have c8 : w1.cell? ⟨B, 8, none⟩ = some (.int .i64 kd) := HP.out.cell 8 (by omega)
  have c9 : w1.cell? ⟨B, 9, none⟩ = some (.int .i64 sl) := HP.out.cell 9 (by omega)
  have c10 : w1.cell? ⟨B, 10, none⟩ = some (.int .i64 fs) := HP.out.cell 10 (by omega)
  have c11 : w1.cell? ⟨B, 11, none⟩ = some (.int .i64 ss) := HP.out.cell 11 (by omega)
  have c12 : w1.cell? ⟨B, 12, none⟩ = some (.int .i64 ix) := HP.out.cell 12 (by omega)
  have c48 : w1.cell? ⟨B, 48, none⟩ = some (.slice sa sm.length sc) := HP.out.cell 48 (by omega)
  have c49 : w1.cell? ⟨B, 49, none⟩ = some (.int .u32 (id : Int)) := HP.out.cell 49 (by omega)
  have c50 : w1.cell? ⟨B, 50, none⟩ = some (.slice da dt.length dc) := HP.out.cell 50 (by omega)
  have HFO : Hid (FilOk fl) := HPK.out.okk.file
  -- nothing of a main packet
  go_cut [4] (fun s4 wx => ∃ nb : Bool, s4 = .bool nb ∧ Hid (nb = true ↔ sl = 0 ∧ fs = 0 ∧ ss = 0) ∧ w1 = wx)
  case first =>
    by_cases q0 : sl = 0
    · have d0 : (sl == 0) = true := beq_iff_eq.2 q0
      by_cases q1 : fs = 0
      · have d1 : (fs == 0) = true := beq_iff_eq.2 q1
        have HR : Hid ((ss == 0) = true ↔ sl = 0 ∧ fs = 0 ∧ ss = 0) := ⟨fun h => ⟨q0, q1, beq_iff_eq.1 h⟩, fun h => beq_iff_eq.2 h.2.2⟩
        clear q0 q1
        go_wp2_with fail
        go_meet
        exact ⟨_, rfl, HR, rfl⟩
      · have d1 : (fs == 0) = false := beq_eq_false_iff_ne.2 q1
        have HR : Hid (false = true ↔ sl = 0 ∧ fs = 0 ∧ ss = 0) := ⟨fun h => (by cases h), fun h => absurd h.2.1 q1⟩
        clear q0 q1
        go_wp2_with fail
        go_meet
        exact ⟨_, rfl, HR, rfl⟩
    · have d0 : (sl == 0) = false := beq_eq_false_iff_ne.2 q0
      have HR : Hid (false = true ↔ sl = 0 ∧ fs = 0 ∧ ss = 0) := ⟨fun h => (by cases h), fun h => absurd h.1 q0⟩
      clear q0
      go_wp2_with fail
      go_meet
      exact ⟨_, rfl, HR, rfl⟩
  case rest =>
  obtain ⟨nb, rfl, HNB, rfl⟩ := hcut
  -- no file
  obtain ⟨FA, hFA⟩ : ∃ FA, FA = rowArr 35 (filV fl) := ⟨_, rfl⟩
  obtain ⟨fb, hfb⟩ : ∃ fb : Bool, fb = decide (fl = zFil) := ⟨_, rfl⟩
  have HFB : Hid (fb = true ↔ fl = zFil) := by show _ ↔ _; rw [hfb, decide_eq_true_iff]
  have hnf : ∀ w, (binOp .eql 25 (.agg FA) (.agg #[.string { data := #[] }, .int .i64 0, .int .u8 0, .int .u8 0, .int .u8 0, .int .u8 0, .int .u8 0, .int .u8 0, .int .u8 0, .int .u8 0, .int .u8 0, .int .u8 0, .int .u8 0, .int .u8 0, .int .u8 0, .int .u8 0, .int .u8 0, .int .u8 0, .int .u8 0, .int .u8 0, .int .u8 0, .int .u8 0, .int .u8 0, .int .u8 0, .int .u8 0, .int .u8 0, .int .u8 0, .int .u8 0, .int .u8 0, .int .u8 0, .int .u8 0, .int .u8 0, .int .u8 0, .int .u8 0, .int .i64 0])).run Tryd.prog w = .ok (.bool fb) w := fun w => by
    show (binOp .eql 25 (.agg FA) (.agg zF)).run Tryd.prog w = _
    rw [run_eql_struct, hFA, zF_eq, eq_file HFO.out zFil_ok 9997 w, hfb]
    rfl
  have HV : Hid ((rowArr 35 fun j => pkV ⟨set, kd, sl, fs, ss, ix, fl, sm, id, dt⟩ sa sc da dc (13 + j)) = FA) := by show _ = _; rw [pk_file, hFA]
  have HG : Hid (∀ j, j < 35 → w1.cell? ⟨B, 13 + j, none⟩ = some (pkV ⟨set, kd, sl, fs, ss, ix, fl, sm, id, dt⟩ sa sc da dc (13 + j))) := fun j hj => HP.out.cell _ (by omega)
  have HFA := Lib.hid hFA
  clear hFA hfb
  go_upto_region 3 with (refine wpList_load_v (by rfl) 25 _ rfl B 13 35 _ FA HV.out rfl _ HG.out Tryd.underlying25 rfl (by kernel_rfl) ?_)
  clear hnf
  -- no symbol
  go_cut [6] (fun s6 wx => ∃ sb : Bool, s6 = .bool sb ∧ Hid (sb = true ↔ id = 0 ∧ dt = []) ∧ w1 = wx)
  case first =>
    by_cases q0 : id = 0
    · have d0 : ((id : Int) == 0) = true := beq_iff_eq.2 (by omega)
      have HR : Hid (((dt.length : Int) == 0) = true ↔ id = 0 ∧ dt = []) := ⟨fun h => ⟨q0, List.length_eq_zero_iff.1 (by have := beq_iff_eq.1 h; omega)⟩, fun h => beq_iff_eq.2 (by rw [h.2]; rfl)⟩
      clear q0
      go_wp2_with fail
      go_meet
      exact ⟨_, rfl, HR, rfl⟩
    · have d0 : ((id : Int) == 0) = false := beq_eq_false_iff_ne.2 (by omega)
      have HR : Hid (false = true ↔ id = 0 ∧ dt = []) := ⟨fun h => (by cases h), fun h => absurd h.1 q0⟩
      clear q0
      go_wp2_with fail
      go_meet
      exact ⟨_, rfl, HR, rfl⟩
  case rest =>
  obtain ⟨sb, rfl, HSB, rfl⟩ := hcut
  have HSM := Lib.hid HPK.out.sums
  have HDT := Lib.hid HPK.out.data
  have HOKI := Lib.hid HPK.out.okk
  have HLM : Hid (sm.length = 0 ↔ sm = []) := List.length_eq_zero_iff
  subst hk
  clear HV HG HFA c9 c10 c11 c49 c50
  go_upto_region 11 with fail
  clear c8
  go_cut [8] (fun s8 wx => ∃ ob : Bool, s8 = .bool ob ∧ Hid (ob = true ↔ ((sl = 0 ∧ fs = 0 ∧ ss = 0) ∧ fl = zFil ∧ (id = 0 ∧ dt = []) ∧ 0 ≤ ix ∧ ix < 256)) ∧ w1 = wx)
  case first =>
    obtain hb0 | hb0 : nb = true ∨ nb = false := by cases nb <;> simp
    · have y0 := HNB.out.1 hb0
      subst hb0
      obtain hb1 | hb1 : fb = true ∨ fb = false := by cases fb <;> simp
      · have y1 := HFB.out.1 hb1
        subst hb1
        obtain hb2 | hb2 : sb = true ∨ sb = false := by cases sb <;> simp
        · have y2 := HSB.out.1 hb2
          subst hb2
          by_cases y3 : 0 ≤ ix
          · have d3 : decide ((0 : Int) ≤ ix) = true := decide_eq_true y3
            have HR : Hid (decide (ix < 256) = true ↔ ((sl = 0 ∧ fs = 0 ∧ ss = 0) ∧ fl = zFil ∧ (id = 0 ∧ dt = []) ∧ 0 ≤ ix ∧ ix < 256)) := ⟨fun h => ⟨y0, y1, y2, y3, of_decide_eq_true h⟩, fun h => decide_eq_true h.2.2.2.2⟩
            clear y0 y1 y2 y3 HNB HFB HSB
            as_aux_lemma =>
              go_wp2_with fail
              go_meet
              exact ⟨_, rfl, HR, rfl⟩
          · have n3 := y3
            clear y3
            have d3 : decide ((0 : Int) ≤ ix) = false := decide_eq_false n3
            have HR : Hid (false = true ↔ ((sl = 0 ∧ fs = 0 ∧ ss = 0) ∧ fl = zFil ∧ (id = 0 ∧ dt = []) ∧ 0 ≤ ix ∧ ix < 256)) := ⟨fun h => (by cases h), fun h => absurd h.2.2.2.1 n3⟩
            clear y0 y1 y2 n3 HNB HFB HSB
            as_aux_lemma =>
              go_wp2_with fail
              go_meet
              exact ⟨_, rfl, HR, rfl⟩
        · have n2 : ¬ (id = 0 ∧ dt = []) := fun h => by have := HSB.out.2 h; rw [hb2] at this; cases this
          subst hb2
          have HR : Hid (false = true ↔ ((sl = 0 ∧ fs = 0 ∧ ss = 0) ∧ fl = zFil ∧ (id = 0 ∧ dt = []) ∧ 0 ≤ ix ∧ ix < 256)) := ⟨fun h => (by cases h), fun h => absurd h.2.2.1 n2⟩
          clear y0 y1 n2 HNB HFB HSB
          as_aux_lemma =>
            go_wp2_with fail
            go_meet
            exact ⟨_, rfl, HR, rfl⟩
      · have n1 : ¬ (fl = zFil) := fun h => by have := HFB.out.2 h; rw [hb1] at this; cases this
        subst hb1
        have HR : Hid (false = true ↔ ((sl = 0 ∧ fs = 0 ∧ ss = 0) ∧ fl = zFil ∧ (id = 0 ∧ dt = []) ∧ 0 ≤ ix ∧ ix < 256)) := ⟨fun h => (by cases h), fun h => absurd h.2.1 n1⟩
        clear y0 n1 HNB HFB HSB
        as_aux_lemma =>
          go_wp2_with fail
          go_meet
          exact ⟨_, rfl, HR, rfl⟩
    · have n0 : ¬ (sl = 0 ∧ fs = 0 ∧ ss = 0) := fun h => by have := HNB.out.2 h; rw [hb0] at this; cases this
      subst hb0
      have HR : Hid (false = true ↔ ((sl = 0 ∧ fs = 0 ∧ ss = 0) ∧ fl = zFil ∧ (id = 0 ∧ dt = []) ∧ 0 ≤ ix ∧ ix < 256)) := ⟨fun h => (by cases h), fun h => absurd h.1 n0⟩
      clear  n0 HNB HFB HSB
      as_aux_lemma =>
        go_wp2_with fail
        go_meet
        exact ⟨_, rfl, HR, rfl⟩
  case rest =>
  obtain ⟨ob, rfl, HOB, rfl⟩ := hcut
  obtain ⟨GG, hGG⟩ : ∃ GG : Prop, GG = ((sl = 0 ∧ fs = 0 ∧ ss = 0) ∧ fl = zFil ∧ (id = 0 ∧ dt = []) ∧ 0 ≤ ix ∧ ix < 256) := ⟨_, rfl⟩
  rw [← hGG] at HOB
  have HGG := Lib.hid hGG
  have hl1 := HSM.out.len
  have hcm : sc ≤ 9223372036854775807 := by have := HSM.out.most; unfold maxLen at this; omega
  have HO0 : Hid (ob = true ↔ GG ∧ ∀ x ∈ sm.take 0, 0 ≤ x.n ∧ x.n < 65536) := ⟨fun h => ⟨HOB.out.1 h, by simp⟩, fun h => HOB.out.2 h.1⟩
  clear hGG HNB HFB HSB HOB HFO HDT
  go_wp2_with fail
  go_loopw [8, 168] (fun s8 j wr => ∃ (k : Nat) (ok : Bool), k ≤ sm.length ∧ s8 = .bool ok ∧ j = .int .i64 (k : Int) ∧ Hid (ok = true ↔ GG ∧ ∀ x ∈ sm.take k, 0 ≤ x.n ∧ x.n < 65536) ∧ Hid (wr = w1)) (fun _ j _ => sm.length - (intOf j).toNat)
  case atStart => exact ⟨0, ob, by omega, rfl, rfl, HO0, Lib.hid rfl⟩
  case round =>
    obtain ⟨k, ok, hk, rfl, rfl, HOK, HW⟩ := hrel
    have hwr := HW.out
    subst wr
    clear HO0
    by_cases hlt : k < sm.length
    · have hkz : (k : Int) < (sm.length : Int) := by omega
      obtain ⟨sb', off, rfl, hbl, hx, _, _⟩ := sms_one HSM.out hlt
      have HNX : Hid (∀ y, (y = sm[k] ∨ y ∈ sm.take k) ↔ y ∈ sm.take (k + 1)) := fun y => by
        rw [List.take_succ_eq_append_getElem hlt, List.mem_append, List.mem_singleton]
        exact or_comm
      obtain ⟨z, hz⟩ : ∃ z, z = sm[k].n := ⟨_, rfl⟩
      rw [← hz] at hx
      have HZ := Lib.hid hz
      clear hz hbl
      obtain hb0 | hb0 : ok = true ∨ ok = false := by cases ok <;> simp
      · subst hb0
        by_cases y0 : 0 ≤ z
        · have d0 : decide ((0 : Int) ≤ z) = true := decide_eq_true y0
          have HR : Hid (decide (z < 65536) = true ↔ GG ∧ ∀ x ∈ sm.take (k + 1), 0 ≤ x.n ∧ x.n < 65536) := by
            show _ ↔ _
            rw [decide_eq_true_iff]
            constructor
            · intro h
              have h0 := HOK.out.1 rfl
              refine ⟨h0.1, fun x hx => ?_⟩
              rcases (HNX.out x).2 hx with rfl | hx
              · rw [← HZ.out]; exact ⟨y0, h⟩
              · exact h0.2 x hx
            · intro h
              rw [HZ.out]
              exact (h.2 _ ((HNX.out _).1 (.inl rfl))).2
          clear y0 HOK HNX
          go_wp2_with fail
          go_roundw
          case rel => exact ⟨k + 1, _, by omega, rfl, by go_num, HR, Lib.hid trivial⟩
          case measure => simp [intOf]; omega
        · have d0 : decide ((0 : Int) ≤ z) = false := decide_eq_false y0
          have HR : Hid (false = true ↔ GG ∧ ∀ x ∈ sm.take (k + 1), 0 ≤ x.n ∧ x.n < 65536) := by
            refine ⟨fun h => (by cases h), fun h => absurd ?_ y0⟩
            rw [HZ.out]
            exact (h.2 _ ((HNX.out _).1 (.inl rfl))).1
          clear y0 HOK HNX
          go_wp2_with fail
          go_roundw
          case rel => exact ⟨k + 1, _, by omega, rfl, by go_num, HR, Lib.hid trivial⟩
          case measure => simp [intOf]; omega
      · subst hb0
        have HR : Hid (false = true ↔ GG ∧ ∀ x ∈ sm.take (k + 1), 0 ≤ x.n ∧ x.n < 65536) := by
          refine ⟨fun h => (by cases h), fun h => ?_⟩
          exact HOK.out.2 ⟨h.1, fun x hx => h.2 x ((HNX.out x).1 (.inr hx))⟩
        clear HOK HNX
        go_wp2_with fail
        go_roundw
        case rel => exact ⟨k + 1, _, by omega, rfl, by go_num, HR, Lib.hid trivial⟩
        case measure => simp [intOf]; omega
    · obtain rfl : k = sm.length := by omega
      rw [List.take_length] at HOK
      have HCL := Lib.hid (refSums_any ix sa sc sm w1 HOKI.out.index HSM.out hsl)
      have HPO : Hid (ok = true ↔ pkOk ⟨set, 3, sl, fs, ss, ix, fl, sm, id, dt⟩) := by
        show _ ↔ _
        rw [HOK.out, HGG.out]
        constructor
        · intro h
          exact .inr (.inr (.inl ⟨rfl, h.1.1, h.1.2.1, h.1.2.2.1, h.1.2.2.2, (by show sm.length < 65536; omega), h.2⟩))
        · intro h
          rcases h with h | h | h | h
          · exact absurd h.1 (by simp only; decide)
          · exact absurd h.1 (by simp only; decide)
          · exact ⟨⟨h.2.1, h.2.2.1, h.2.2.2.1, h.2.2.2.2.1⟩, h.2.2.2.2.2.2⟩
          · exact absurd h.1 (by simp only; decide)
      clear HOK HGG
      go_wp2_with fail
      (with_reducible refine HCL.out.mono ?_)
      rintro e w8 ⟨v, rfl, ha⟩
      have HA : Hid (Acc w w8 v _) := ha.base HB.out
      clear ha HCL
      go_wp2_with fail
      go_ret2
      exact ⟨v, ok, rfl, HPO.out, fun _ => HA.out, HA.out.below⟩
end Go.Proofs.YthpfjgbhacdpgaaDoor
end
