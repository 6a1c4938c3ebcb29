/-
  Package packet: plain.
  The shelf's contract on bytes.Join, laid at this dump.
  slices.Reverse over slices of bytes; bytes.Join of nothing between, as the shelf has it.
  bytes.Join of nothing between: the pieces one behind the other.
  Package codec: an Out's End.
-/
import Derived.Test.YtechekkojinkmaaDoorMp18
import Derived.Shelf.Bytes.SlJoin
import Derived.Test.YtechekkojinkmaaDoorRows
import Derived.BigRegion
import Derived.Deep.Slices
section
namespace Go.Proofs.YtechekkojinkmaaDoor
open Go.ChangeShapes Go.WideShapes Go.ChangeAt Go.RowKit Go.Joins
set_option linter.unusedVariables false

theorem run_storeVar_part {P : Program} (w : World) (g o : Nat) (t ty : TypeId) (old cells : Array Value) (hg : w.heap[g]? = some (.cells old t (0, 0))) (hi : (P.info? ty).map (·.size) = some cells.size)
    (ho : o + cells.size ≤ old.size) (h1 : cells.all (·.oneCell') = true) :
    (storeVar ty ⟨g, o, none⟩ (.agg cells)).run P w = .ok () (w.setRow g (old.toList.take o ++ cells.toList ++ old.toList.drop (o + cells.size)).toArray) := by
  have := run_storeCells_at P g o t cells.toList 0 old w hg (by simpa using ho) (fun v hv => (Array.all_eq_true_iff_forall_mem.1 h1) v (by simpa using hv))
  cases hq : P.info? ty with
  | none => simp [hq] at hi
  | some i =>
    have hs : cells.size = i.size := by simp [hq] at hi; omega
    simp only [Nat.add_zero, Array.length_toList] at this
    rw [hs] at this
    simp [storeVar, sizeOf, typeInfo, hq, Value.cells, hs, this]
/-- A struct or an array stored into a part of a block. -/
theorem wpList_store_part {ops : Array Oper} {rest : List Oper} {o : Oper} {a : Act} {w : World} {Q : Exit → Act → World → Prop} (hgd : o.guard = none) (ty : TypeId) (x y : Operand) (ho : o.op = .store ty x y)
    (g off n N : Nat) (F F' : Nat → Value) (t : TypeId) (cells : Array Value) (hx : a.eval x = .pointer (some ⟨g, off, none⟩)) (hy : a.eval y = .agg cells) (hg : Row w g t N N F)
    (hi : (Tryd.prog.info? ty).map (·.size) = some cells.size) (hn : cells.size = n) (ho2 : off + n ≤ N) (h1 : cells.all (·.oneCell') = true)
    (hf : ∀ j, j < N → (off ≤ j ∧ j < off + n ∧ cells[j - off]? = some (F' j)) ∨ ((j < off ∨ off + n ≤ j) ∧ F' j = F j))
    (h : ∀ w', Hid (Row w' g t N N F') → Hid (Fr (fun k => k = g) w w') → wpList Tryd.prog ops Q rest (a.put o.dst undef) w') : wpList Tryd.prog ops Q (o :: rest) a w := by
  subst hn
  refine wpList_plain hgd fun K hK => ?_
  have hw := hg.whole
  have hr := run_storeVar_part (P := Tryd.prog) w g off t ty _ cells hw hi (by rw [rowArr_size]; exact ho2) h1
  unfold Oper.wp execOp
  simp only [ho, hx, hy, Instr.storeAt, Instr.sureAddr, Sem.run_bind, Sem.run_pure, Result.andThen_ok, hr]
  refine hK _ _ (h _ ⟨_, setRow_heap _ _ _ _ _ _ hw, ?_, fun j hj => ?_⟩ (Fr.setRow (X := fun k => k = g) (Fr.refl _ w) (fun _ => rfl) _))
  · have : (rowArr N F).toList.length = N := by rw [Array.length_toList, rowArr_size]
    simp only [List.size_toArray, List.length_append, List.length_take, List.length_drop, this, Array.length_toList]
    omega
  · have hcl : (rowArr N F).toList.length = N := by rw [Array.length_toList, rowArr_size]
    have htl : ((rowArr N F).toList.take off).length = off := by rw [List.length_take, hcl]; omega
    rw [List.getElem?_toArray]
    rcases hf j hj with ⟨h4, h5, h6⟩ | ⟨h4, h6⟩
    · rw [List.getElem?_append_left (by rw [List.length_append, htl, Array.length_toList]; omega), List.getElem?_append_right (by rw [htl]; exact h4), htl, ← h6]
      simp
    · have hF : (rowArr N F).toList[j]? = some (F j) := by rw [rowArr_get, if_pos hj]
      rw [h6]
      rcases h4 with h4 | h4
      · rw [List.getElem?_append_left (by rw [List.length_append, htl]; omega), List.getElem?_append_left (by rw [htl]; exact h4), List.getElem?_take, if_pos h4, hF]
      · rw [List.getElem?_append_right (by rw [List.length_append, htl, Array.length_toList]; exact h4), List.length_append, htl, Array.length_toList, List.getElem?_drop, show off + cells.size + (j - (off + cells.size)) = j by omega, hF]
theorem Row.put {w : World} {P : Nat} {p : Pk} {sa : Option Addr} {sc : Nat} {da : Option Addr} {dc : Nat} (h : Row w P 44 51 51 (pkV p sa sc da dc)) {i : Nat} (hi : i < 51) {v : Value} (p' : Pk) (sa' : Option Addr) (sc' : Nat) (da' : Option Addr) (dc' : Nat) (hv : ∀ j, j < 51 → pkV p' sa' sc' da' dc' j = if j = i then v else pkV p sa sc da dc j) : Row (w.setCell ⟨P, i, none⟩ v) P 44 51 51 (pkV p' sa' sc' da' dc') :=
  (h.upd i hi v).mono (Nat.le_refl _) fun j hj => (hv j hj).symm
theorem below_cellB {n : Nat} {w w1 : World} (h : Below n w w1) (hn : n ≤ w1.heap.size) {B : Nat} (hB : n ≤ B) (i : Nat) (v : Value) : Below n w (w1.setCell ⟨B, i, none⟩ v) :=
  h.trans ((Fr.set (X := fun j => j = B) (p := ⟨B, i, none⟩) (Fr.refl _ w1) (fun _ => rfl) v).below hn fun k hk e => by omega)
theorem pkV_zfile (p : Pk) (sa : Option Addr) (sc : Nat) (da : Option Addr) (dc : Nat) : ∀ j, j < 51 → (13 ≤ j ∧ j < 13 + 35 ∧ (rowArr 35 (filV zFil))[j - 13]? = some (pkV { p with file := zFil } sa sc da dc j)) ∨ ((j < 13 ∨ 13 + 35 ≤ j) ∧ pkV { p with file := zFil } sa sc da dc j = pkV p sa sc da dc j) := fun j hj => by
  by_cases h : 13 ≤ j ∧ j < 48
  · refine .inl ⟨h.1, by omega, ?_⟩
    rw [pkV_fil _ _ _ _ _ h.1 h.2]
    simp [rowArr, show j - 13 < 35 by omega]
  · refine .inr ⟨by omega, ?_⟩
    unfold pkV
    (repeat' split) <;> first | rfl | (exfalso; omega)

theorem oneCell_fil (f : Fil) : (rowArr 35 (filV f)).all (·.oneCell') = true := by
  simp only [rowArr, List.all_toArray, List.all_map, List.all_eq_true]
  intro j _
  simp only [Function.comp]
  unfold filV
  (repeat' split) <;> rfl
set_option maxRecDepth 1000000 in
set_option maxHeartbeats 4000000 in
theorem plain_any (p : Pk) (sa : Option Addr) (sc : Nat) (da : Option Addr) (dc : Nat) (w : World) (hf : FilOk p.file) (hsl : p.sums.length ≤ 1000000) (hdl : p.data.length ≤ 1000000) :
    Calls Tryd.prog 32 #[.agg (rowArr 51 (pkV p sa sc da dc))] w fun e w' => e = .returned (.bool (decide (plainP p))) ∧ Below w.heap.size w w' := by
  have mixed : Tryd.prog.follows .mixedOrders = true := by kernel_rfl
  have hHB : Below w.heap.size w (w.alloc (.cells (rowArr 51 (pkV p sa sc da dc)) 44)) := (Below.refl _ _).alloc (Nat.le_refl _) _
  have hHP : Row (w.alloc (.cells (rowArr 51 (pkV p sa sc da dc)) 44)) w.heap.size 44 51 51 (pkV p sa sc da dc) := Row.of_whole (heap_alloc_last w _)
  have HB := Lib.hid hHB
  have HP := Lib.hid hHP
  obtain ⟨arr, harr⟩ : ∃ arr, arr = rowArr 51 (pkV p sa sc da dc) := ⟨_, rfl⟩
  rw [← harr] at HB HP ⊢
  have HFO := Lib.hid hf
  obtain ⟨RB, hRB⟩ : ∃ RB, RB = decide (plainP p) := ⟨_, rfl⟩
  rw [← hRB]
  have HRB := Lib.hid hRB
  clear harr hRB hf hHB hHP
  go_enter Tryd.func32, Tryd.ntmps32
  go_upto_region 1 with fail
  obtain ⟨B, hB⟩ : ∃ B, B = w.heap.size := ⟨_, rfl⟩
  have hwB : w.heap.size ≤ B := by omega
  rw [← hB] at HP ⊢
  generalize w.alloc (.cells arr 44) = w1 at *
  clear hB
  obtain ⟨set, kd, sl, fs, ss, ix, fl, sm, id, dt⟩ := p
  simp only at hsl hdl HFO
  have c8 : w1.cell? ⟨B, 8, none⟩ = some (.int .i64 kd) := HP.out.cell 8 (by omega)
  by_cases k1 : kd = 1
  · subst k1
    have c9 := HP.out.cell 9 (by omega)
    have f9 := HP.out.loose 9
    have c10 := HP.out.cell 10 (by omega)
    have f10 := HP.out.loose 10
    have c11 := HP.out.cell 11 (by omega)
    have f11 := HP.out.loose 11
    go_upto_region 13 with fail
    have HQ : Hid (Row (((w1.setCell ⟨B, 9, none⟩ (.int .i64 0)).setCell ⟨B, 10, none⟩ (.int .i64 0)).setCell ⟨B, 11, none⟩ (.int .i64 0)) B 44 51 51 (pkV ⟨set, 1, 0, 0, 0, ix, fl, sm, id, dt⟩ sa sc da dc)) :=
      ((HP.out.put (by omega) ⟨set, 1, 0, fs, ss, ix, fl, sm, id, dt⟩ sa sc da dc (pkV_slice ⟨set, 1, sl, fs, ss, ix, fl, sm, id, dt⟩ sa sc da dc 0)).put (by omega) ⟨set, 1, 0, 0, ss, ix, fl, sm, id, dt⟩ sa sc da dc (pkV_files ⟨set, 1, 0, fs, ss, ix, fl, sm, id, dt⟩ sa sc da dc 0)).put (by omega) ⟨set, 1, 0, 0, 0, ix, fl, sm, id, dt⟩ sa sc da dc (pkV_slices ⟨set, 1, 0, 0, ss, ix, fl, sm, id, dt⟩ sa sc da dc 0)
    have HBq : Hid (Below w.heap.size w (((w1.setCell ⟨B, 9, none⟩ (.int .i64 0)).setCell ⟨B, 10, none⟩ (.int .i64 0)).setCell ⟨B, 11, none⟩ (.int .i64 0))) := (below_cellB (below_cellB (below_cellB HB.out (by simpa using HB.out.size) hwB _ _) (by simpa using HB.out.size) hwB _ _) (by simpa using HB.out.size) hwB _ _)
    generalize ((w1.setCell ⟨B, 9, none⟩ (.int .i64 0)).setCell ⟨B, 10, none⟩ (.int .i64 0)).setCell ⟨B, 11, none⟩ (.int .i64 0) = w2 at *
    clear c8 c9 c10 c11 f9 f10 f11 HP HB
    have HRE : Hid (RB = decide (blankP ⟨set, 1, 0, 0, 0, ix, fl, sm, id, dt⟩)) := by
      show _ = _
      rw [HRB.out]
      refine decide_eq_decide.2 ?_
      unfold plainP
      simp only
      simp
    have HBL := Lib.hid (blank_any ⟨set, 1, 0, 0, 0, ix, fl, sm, id, dt⟩ sa sc da dc w2 HFO.out (by simp only; omega) (by simp only; omega))
    rw [← HRE.out] at HBL
    clear HRE HRB
    have HWH := Lib.hid HQ.out.whole
    obtain ⟨AQ, hAQ⟩ : ∃ AQ, AQ = rowArr 51 (pkV ⟨set, 1, 0, 0, 0, ix, fl, sm, id, dt⟩ sa sc da dc) := ⟨_, rfl⟩
    have hAQs : AQ.size = 51 := by rw [hAQ, rowArr_size]
    rw [← hAQ] at HBL HWH
    have HAS := Lib.hid hAQs
    clear hAQ hAQs HQ
    go_wp2_with (refine wpList_load_row rfl 44 _ rfl B rfl 44 AQ (0, 0) _ HWH.out Tryd.underlying44 rfl (by rw [HAS.out]; kernel_rfl) ?_)
    (with_reducible refine HBL.out.mono ?_)
    rintro e wz ⟨rfl, bz⟩
    have HBz : Hid (Below w.heap.size w wz) := HBq.out.trans (bz.mono HBq.out.size)
    clear bz HBL HBq
    go_wp2_with fail
    go_ret
    exact ⟨rfl, HBz.out⟩
  by_cases k2 : kd = 2
  · subst k2
    have c12 := HP.out.cell 12 (by omega)
    have f12 := HP.out.loose 12
    go_upto_region 6 with fail
    have HQ1 : Hid (Row (w1.setCell ⟨B, 12, none⟩ (.int .i64 0)) B 44 51 51 (pkV ⟨set, 2, sl, fs, ss, 0, fl, sm, id, dt⟩ sa sc da dc)) := HP.out.put (by omega) ⟨set, 2, sl, fs, ss, 0, fl, sm, id, dt⟩ sa sc da dc (pkV_index ⟨set, 2, sl, fs, ss, ix, fl, sm, id, dt⟩ sa sc da dc 0)
    have HBq1 : Hid (Below w.heap.size w (w1.setCell ⟨B, 12, none⟩ (.int .i64 0))) := (below_cellB HB.out (by simpa using HB.out.size) hwB _ _)
    go_upto_region 13 with (refine wpList_store_part rfl 41 _ _ rfl B 13 35 51 _ (pkV ⟨set, 2, sl, fs, ss, 0, zFil, sm, id, dt⟩ sa sc da dc) 44 _ rfl rfl HQ1.out (by kernel_rfl) rfl (by omega) (oneCell_fil zFil) (pkV_zfile ⟨set, 2, sl, fs, ss, 0, fl, sm, id, dt⟩ sa sc da dc) ?_; intro w2 HQ hf2; have HBq : Hid (Below w.heap.size w w2) := HBq1.out.trans (hf2.out.below HBq1.out.size fun k hk e => by omega); clear hf2)
    clear c8 c12 f12 HP HB HQ1 HBq1
    have HRE : Hid (RB = decide (blankP ⟨set, 2, sl, fs, ss, 0, zFil, sm, id, dt⟩)) := by
      show _ = _
      rw [HRB.out]
      refine decide_eq_decide.2 ?_
      unfold plainP
      simp only
      simp
    have HBL := Lib.hid (blank_any ⟨set, 2, sl, fs, ss, 0, zFil, sm, id, dt⟩ sa sc da dc w2 zFil_ok (by simp only; omega) (by simp only; omega))
    rw [← HRE.out] at HBL
    clear HRE HRB
    have HWH := Lib.hid HQ.out.whole
    obtain ⟨AQ, hAQ⟩ : ∃ AQ, AQ = rowArr 51 (pkV ⟨set, 2, sl, fs, ss, 0, zFil, sm, id, dt⟩ sa sc da dc) := ⟨_, rfl⟩
    have hAQs : AQ.size = 51 := by rw [hAQ, rowArr_size]
    rw [← hAQ] at HBL HWH
    have HAS := Lib.hid hAQs
    clear hAQ hAQs HQ
    go_wp2_with (refine wpList_load_row rfl 44 _ rfl B rfl 44 AQ (0, 0) _ HWH.out Tryd.underlying44 rfl (by rw [HAS.out]; kernel_rfl) ?_)
    (with_reducible refine HBL.out.mono ?_)
    rintro e wz ⟨rfl, bz⟩
    have HBz : Hid (Below w.heap.size w wz) := HBq.out.trans (bz.mono HBq.out.size)
    clear bz HBL HBq
    go_wp2_with fail
    go_ret
    exact ⟨rfl, HBz.out⟩
  by_cases k3 : kd = 3
  · subst k3
    have c12 := HP.out.cell 12 (by omega)
    have f12 := HP.out.loose 12
    have c48 := HP.out.cell 48 (by omega)
    have f48 := HP.out.loose 48
    go_upto_region 13 with fail
    have HQ : Hid (Row ((w1.setCell ⟨B, 12, none⟩ (.int .i64 0)).setCell ⟨B, 48, none⟩ (.slice none 0 0)) B 44 51 51 (pkV ⟨set, 3, sl, fs, ss, 0, fl, [], id, dt⟩ none 0 da dc)) :=
      (HP.out.put (by omega) ⟨set, 3, sl, fs, ss, 0, fl, sm, id, dt⟩ sa sc da dc (pkV_index ⟨set, 3, sl, fs, ss, ix, fl, sm, id, dt⟩ sa sc da dc 0)).put (by omega) ⟨set, 3, sl, fs, ss, 0, fl, [], id, dt⟩ none 0 da dc (pkV_sums ⟨set, 3, sl, fs, ss, 0, fl, sm, id, dt⟩ sa sc da dc [] none 0)
    have HBq : Hid (Below w.heap.size w ((w1.setCell ⟨B, 12, none⟩ (.int .i64 0)).setCell ⟨B, 48, none⟩ (.slice none 0 0))) := (below_cellB (below_cellB HB.out (by simpa using HB.out.size) hwB _ _) (by simpa using HB.out.size) hwB _ _)
    generalize (w1.setCell ⟨B, 12, none⟩ (.int .i64 0)).setCell ⟨B, 48, none⟩ (.slice none 0 0) = w2 at *
    clear c8 c12 c48 f12 f48 HP HB
    have HRE : Hid (RB = decide (blankP ⟨set, 3, sl, fs, ss, 0, fl, [], id, dt⟩)) := by
      show _ = _
      rw [HRB.out]
      refine decide_eq_decide.2 ?_
      unfold plainP
      simp only
      simp
    have HBL := Lib.hid (blank_any ⟨set, 3, sl, fs, ss, 0, fl, [], id, dt⟩ none 0 da dc w2 HFO.out (by simp) (by simp only; omega))
    rw [← HRE.out] at HBL
    clear HRE HRB
    have HWH := Lib.hid HQ.out.whole
    obtain ⟨AQ, hAQ⟩ : ∃ AQ, AQ = rowArr 51 (pkV ⟨set, 3, sl, fs, ss, 0, fl, [], id, dt⟩ none 0 da dc) := ⟨_, rfl⟩
    have hAQs : AQ.size = 51 := by rw [hAQ, rowArr_size]
    rw [← hAQ] at HBL HWH
    have HAS := Lib.hid hAQs
    clear hAQ hAQs HQ
    go_wp2_with (refine wpList_load_row rfl 44 _ rfl B rfl 44 AQ (0, 0) _ HWH.out Tryd.underlying44 rfl (by rw [HAS.out]; kernel_rfl) ?_)
    (with_reducible refine HBL.out.mono ?_)
    rintro e wz ⟨rfl, bz⟩
    have HBz : Hid (Below w.heap.size w wz) := HBq.out.trans (bz.mono HBq.out.size)
    clear bz HBL HBq
    go_wp2_with fail
    go_ret
    exact ⟨rfl, HBz.out⟩
  by_cases k4 : kd = 4
  · subst k4
    have c50 : w1.cell? ⟨B, 50, none⟩ = some (.slice da dt.length dc) := HP.out.cell 50 (by omega)
    have f50 := HP.out.loose 50
    have c49 := HP.out.cell 49 (by omega)
    have f49 := HP.out.loose 49
    have HSY := Lib.hid (symbolic_any dt.length w1 hdl)
    by_cases g : 1 ≤ dt.length ∧ dt.length ≤ 256
    · rw [decide_eq_true g] at HSY
      have HG := Lib.hid g
      clear g
      go_wp2_with fail
      (with_reducible refine HSY.out.mono ?_)
      rintro e wz ⟨rfl, rfl⟩
      go_upto_region 13 with fail
      have HQ : Hid (Row ((w1.setCell ⟨B, 49, none⟩ (.int .u32 0)).setCell ⟨B, 50, none⟩ (.slice none 0 0)) B 44 51 51 (pkV ⟨set, 4, sl, fs, ss, ix, fl, sm, 0, []⟩ sa sc none 0)) :=
        (HP.out.put (by omega) ⟨set, 4, sl, fs, ss, ix, fl, sm, 0, dt⟩ sa sc da dc (pkV_id ⟨set, 4, sl, fs, ss, ix, fl, sm, id, dt⟩ sa sc da dc 0)).put (by omega) ⟨set, 4, sl, fs, ss, ix, fl, sm, 0, []⟩ sa sc none 0 (pkV_data ⟨set, 4, sl, fs, ss, ix, fl, sm, 0, dt⟩ sa sc da dc [] none 0)
      have HBq : Hid (Below w.heap.size w ((w1.setCell ⟨B, 49, none⟩ (.int .u32 0)).setCell ⟨B, 50, none⟩ (.slice none 0 0))) := (below_cellB (below_cellB HB.out (by simpa using HB.out.size) hwB _ _) (by simpa using HB.out.size) hwB _ _)
      clear HSY
      generalize (w1.setCell ⟨B, 49, none⟩ (.int .u32 0)).setCell ⟨B, 50, none⟩ (.slice none 0 0) = w2 at *
      clear c8 c49 c50 f49 f50 HP HB
      have HRE : Hid (RB = decide (blankP ⟨set, 4, sl, fs, ss, ix, fl, sm, 0, []⟩)) := by
        show _ = _
        rw [HRB.out]
        refine decide_eq_decide.2 ?_
        unfold plainP
        simp only
        have := HG.out; simp [this]
      have HBL := Lib.hid (blank_any ⟨set, 4, sl, fs, ss, ix, fl, sm, 0, []⟩ sa sc none 0 w2 HFO.out (by simp only; omega) (by simp))
      rw [← HRE.out] at HBL
      clear HRE HRB
      have HWH := Lib.hid HQ.out.whole
      obtain ⟨AQ, hAQ⟩ : ∃ AQ, AQ = rowArr 51 (pkV ⟨set, 4, sl, fs, ss, ix, fl, sm, 0, []⟩ sa sc none 0) := ⟨_, rfl⟩
      have hAQs : AQ.size = 51 := by rw [hAQ, rowArr_size]
      rw [← hAQ] at HBL HWH
      have HAS := Lib.hid hAQs
      clear hAQ hAQs HQ
      go_wp2_with (refine wpList_load_row rfl 44 _ rfl B rfl 44 AQ (0, 0) _ HWH.out Tryd.underlying44 rfl (by rw [HAS.out]; kernel_rfl) ?_)
      (with_reducible refine HBL.out.mono ?_)
      rintro e wz ⟨rfl, bz⟩
      have HBz : Hid (Below w.heap.size w wz) := HBq.out.trans (bz.mono HBq.out.size)
      clear bz HBL HBq
      go_wp2_with fail
      go_ret
      exact ⟨rfl, HBz.out⟩
    · rw [decide_eq_false g] at HSY
      have HR : Hid (RB = false) := by
        show _ = _
        rw [HRB.out]
        refine decide_eq_false ?_
        unfold plainP
        simp only
        intro h
        rcases h with h | h | h | h
        · exact absurd h.1 (by decide)
        · exact absurd h.1 (by decide)
        · exact absurd h.1 (by decide)
        · exact g h.2.1
      clear g HRB
      go_wp2_with fail
      (with_reducible refine HSY.out.mono ?_)
      rintro e wz ⟨rfl, rfl⟩
      go_wp2_with fail
      go_ret
      exact ⟨ret_bool HR.out.symm, HB.out⟩
  have HR : Hid (RB = false) := by
    show _ = _
    rw [HRB.out]
    refine decide_eq_false ?_
    unfold plainP
    simp only
    intro h
    rcases h with h | h | h | h
    · exact k1 h.1
    · exact k2 h.1
    · exact k3 h.1
    · exact k4 h.1
  have g1 : (kd == 1) = false := beq_eq_false_iff_ne.2 k1
  have g2 : (kd == 2) = false := beq_eq_false_iff_ne.2 k2
  have g3 : (kd == 3) = false := beq_eq_false_iff_ne.2 k3
  have g4 : (kd == 4) = false := beq_eq_false_iff_ne.2 k4
  clear HRB k1 k2 k3 k4
  go_wp2_with fail
  go_ret
  exact ⟨ret_bool HR.out.symm, HB.out⟩
end Go.Proofs.YtechekkojinkmaaDoor
end

section
namespace Go.Proofs.YtechekkojinkmaaDoor
open Go.Shelf Go.Proofs
def lay_joinB_ren : Go.Shelf.Ren := ⟨fun | 14 => 65 | 15 => 87 | n => n, fun | 26 => 52 | 22 => 36 | 3 => 3 | 4 => 4 | 0 => 0 | 9 => 9 | 20 => 20 | 5 => 5 | n => n, fun | n => n⟩
theorem lay_joinB : Go.Proofs.SlLaysJ.n14 Tryd.prog lay_joinB_ren := {
  mixed := by kernel_rfl
  f14 := Tryd.func65.trans (congrArg some (by kernel_rfl))
  f15 := Tryd.func87.trans (congrArg some (by kernel_rfl))
  t0 := Tryd.underlying0
  a0 := Tryd.isAgg0
  z0 := Tryd.sizeOf0
  v0 := Tryd.zeroValue0
  t3 := Tryd.underlying3
  a3 := Tryd.isAgg3
  z3 := Tryd.sizeOf3
  v3 := Tryd.zeroValue3
  t4 := Tryd.underlying4
  a4 := Tryd.isAgg4
  z4 := Tryd.sizeOf4
  v4 := Tryd.zeroValue4
  t9 := Tryd.underlying9
  a9 := Tryd.isAgg9
  z9 := Tryd.sizeOf9
  v9 := Tryd.zeroValue9
  t20 := Tryd.underlying20
  a20 := Tryd.isAgg20
  z20 := Tryd.sizeOf20
  v20 := Tryd.zeroValue20
  t22 := Tryd.underlying36
  a22 := Tryd.isAgg36
  z22 := Tryd.sizeOf36
  v22 := Tryd.zeroValue36
  t26 := Tryd.underlying52
  a26 := Tryd.isAgg52
  z26 := Tryd.sizeOf52
  v26 := Tryd.zeroValue52
  t5 := Tryd.underlying5
  z5 := Tryd.sizeOf5
  i5 := by kernel_rfl }
end Go.Proofs.YtechekkojinkmaaDoor
end

section
namespace Go.Proofs.YtechekkojinkmaaDoor
open Go.ChangeShapes Go.WideShapes Go.ChangeAt Go.RowKit Go.Joins
set_option linter.unusedVariables false

theorem Fr.drewN {X : Nat → Prop} {a w : World} (h : Fr X a w) : Fr X a w.drew := ⟨h.os, h.tape, h.output, h.size, h.block⟩
/-- Cells turned round, the first k and the last k of n. -/
def turnV (f : Nat → Value) (n k j : Nat) : Value := if j < k ∨ n ≤ j + k then f (n - 1 - j) else f j
set_option maxRecDepth 100000 in
set_option maxHeartbeats 4000000 in
theorem reverse_any (g cap n : Nat) (A : Nat → Option Addr) (M C : Nat → Nat) (w : World) (hR : Row w g 36 cap n (fun j => .slice (A j) (M j) (C j))) (hn : n ≤ cap) (hc : cap ≤ maxLen) (h6 : n ≤ 1000000) :
    Calls Tryd.prog 64 #[.slice (some ⟨g, 0, none⟩) n cap] w fun e w' => e = .returned (.tuple #[]) ∧ Row w' g 36 cap n (fun j => .slice (A (n - 1 - j)) (M (n - 1 - j)) (C (n - 1 - j))) ∧ Fr (fun k => k = g) w w' := by
  have mixed : Tryd.prog.follows .mixedOrders = true := by kernel_rfl
  have HR0 : Hid (Row w g 36 cap n (turnV (fun j => .slice (A j) (M j) (C j)) n 0)) := hR.mono (Nat.le_refl _) fun j hj => by unfold turnV; rw [if_neg (by omega)]
  have HF0 : Hid (Fr (fun k => k = g) w w) := Fr.refl _ _
  clear hR
  go_enter Tryd.func64, Tryd.ntmps64
  go_wp2_with fail
  go_loopw [2, 3] (fun i j wr => ∃ k : Nat, k ≤ n ∧ 2 * k ≤ n + 1 ∧ i = .int .i64 (k : Int) ∧ j = .int .i64 ((n : Int) - 1 - (k : Int)) ∧ Hid (Row wr g 36 cap n (turnV (fun j => .slice (A j) (M j) (C j)) n k)) ∧ Hid (Fr (fun k => k = g) w wr)) (fun i _ _ => n - (intOf i).toNat)
  case atStart => exact ⟨0, by omega, by omega, rfl, by go_num, HR0, HF0⟩
  case round =>
    obtain ⟨k, hk, hk2, rfl, rfl, HR, HF⟩ := hrel
    clear HR0 HF0
    by_cases hlt : (k : Int) < (n : Int) - 1 - (k : Int)
    · obtain ⟨m, hm⟩ : ∃ m : Nat, (n : Int) - 1 - (k : Int) = (m : Int) := ⟨n - 1 - k, by omega⟩
      rw [hm] at hlt ⊢
      have hkm : k < m := by omega
      have hmn : m < n := by omega
      have hkn : k < n := by omega
      have hkz : (k : Int) < (n : Int) := by omega
      have hmz : (m : Int) < (n : Int) := by omega
      have ck := HR.out.cell k hkn
      have cm := HR.out.cell m hmn
      have fk := HR.out.loose k
      have fm := HR.out.loose m
      have e1 : turnV (fun j => .slice (A j) (M j) (C j)) n k k = .slice (A k) (M k) (C k) := by unfold turnV; rw [if_neg (by omega)]
      have e2 : turnV (fun j => .slice (A j) (M j) (C j)) n k m = .slice (A m) (M m) (C m) := by unfold turnV; rw [if_neg (by omega)]
      rw [e1] at ck
      rw [e2] at cm
      have HRN : Hid (Row ((wr.setCell ⟨g, k, none⟩ (.slice (A m) (M m) (C m))).setCell ⟨g, m, none⟩ (.slice (A k) (M k) (C k))) g 36 cap n (turnV (fun j => .slice (A j) (M j) (C j)) n (k + 1))) :=
        ((HR.out.upd k (by omega) _).upd m (by omega) _).mono (Nat.le_refl _) fun j hj => by
          have hmk : m = n - 1 - k := by omega
          by_cases e : j = m
          · subst e
            simp only [if_true]
            unfold turnV
            rw [if_pos (by omega), show n - 1 - j = k by omega]
          · rw [if_neg e]
            by_cases e' : j = k
            · subst e'
              simp only [if_true]
              unfold turnV
              rw [if_pos (by omega), hmk]
            · rw [if_neg e']
              unfold turnV
              by_cases h : j < k ∨ n ≤ j + k
              · rw [if_pos h, if_pos (by omega)]
              · rw [if_neg h, if_neg (by omega)]
      have HFN : Hid (Fr (fun k => k = g) w ((wr.setCell ⟨g, k, none⟩ (.slice (A m) (M m) (C m))).setCell ⟨g, m, none⟩ (.slice (A k) (M k) (C k)))) := (HF.out.set (p := ⟨g, k, none⟩) (fun _ => rfl) _).set (p := ⟨g, m, none⟩) (fun _ => rfl) _
      have h2k : 2 * (k + 1) ≤ n + 1 := by omega
      have HM := Lib.hid hm
      clear hm e1 e2
      generalize A k = ak at *
      generalize M k = mk at *
      generalize C k = ck' at *
      generalize A m = am at *
      generalize M m = mm at *
      generalize C m = cm' at *
      have hdd : decide ((k : Int) < (m : Int)) = true := decide_eq_true hlt
      go_wp2_with fail
      go_big_region_o
      go_wp2_with fail
      go_roundw
      case rel => exact ⟨k + 1, by omega, h2k, by go_num, by have := HM.out; first | (congr 1; omega) | go_num, HRN, HFN.out.drewN⟩
      case measure => simp [intOf]; omega
    · have hdd : decide ((k : Int) < (n : Int) - 1 - (k : Int)) = false := decide_eq_false hlt
      have HE : Hid (Row wr g 36 cap n (fun j => .slice (A (n - 1 - j)) (M (n - 1 - j)) (C (n - 1 - j)))) := HR.out.mono (Nat.le_refl _) fun j hj => by
        unfold turnV
        by_cases h : j < k ∨ n ≤ j + k
        · rw [if_pos h]
        · rw [if_neg h, show n - 1 - j = j by omega]
      go_wp2_with fail
      go_end0
      exact ⟨rfl, HE.out, HF.out⟩
set_option maxRecDepth 100000 in
theorem reverse_none (w : World) : Calls Tryd.prog 64 #[.slice none 0 0] w fun e w' => e = .returned (.tuple #[]) ∧ w = w' := by
  go_enter Tryd.func64, Tryd.ntmps64
  go_wp2_with fail
  go_loopw [2, 3] (fun i j wr => i = .int .i64 0 ∧ j = .int .i64 (-1) ∧ Hid (w = wr)) (fun i _ _ => 0)
  case atStart => exact ⟨rfl, rfl, rfl⟩
  case round =>
    obtain ⟨rfl, rfl, HW⟩ := hrel
    go_wp2_with fail
    go_end0
    exact ⟨rfl, HW.out⟩
end Go.Proofs.YtechekkojinkmaaDoor
end

section
namespace Go.Proofs.YtechekkojinkmaaDoor
open Go.ChangeShapes Go.WideShapes Go.ChangeAt Go.RowKit Go.Joins
set_option linter.unusedVariables false

def u8L (l : List Nat) : List UInt8 := l.map fun n => UInt8.ofNat n
theorem u8L_len (l : List Nat) : (u8L l).length = l.length := by simp [u8L]
theorem u8L_get {l : List Nat} (hb : IsByte l) {i : Nat} {x : UInt8} (h : (u8L l)[i]? = some x) : ∃ hi : i < l.length, (x.toNat : Int) = ((l[i] : Nat) : Int) := by
  unfold u8L at h
  rw [List.getElem?_map] at h
  obtain ⟨n, hn, rfl⟩ := Option.map_eq_some_iff.1 h
  obtain ⟨hi, rfl⟩ := List.getElem?_eq_some_iff.1 hn
  have := hb l[i] (List.getElem_mem hi)
  refine ⟨hi, ?_⟩
  simp
  omega
theorem holds_of_sl {w : World} {a : Option Addr} {c : Nat} {l : List Nat} (h : Sl w a c l) : Lib.HoldsBytes w (.slice a l.length c) (u8L l) := by
  refine ⟨a, c, by rw [u8L_len], fun e => by rw [(h.none e).1]; rfl, fun p hp i x hx => ?_⟩
  obtain ⟨hi, e⟩ := u8L_get h.byte hx
  obtain ⟨b, off, e1, hb⟩ := h.some hi
  rw [e1] at hp
  cases hp
  have := hb i hi
  rw [e]
  by_cases i0 : i = 0
  · subst i0; simpa [Addr.add] using this
  · simpa [Addr.add, i0] using this
theorem join_flat : ∀ (ls : List (List Nat)), Lib.join (ls.map u8L) [] = u8L ls.flatten
  | [] => rfl
  | x :: r => by
    rw [List.map_cons, Lib.join_cons]
    unfold Lib.joinTail
    simp [u8L, List.map_flatten]
    rfl
theorem lens_flat : ∀ (ls : List (List Nat)), Lib.lens (ls.map u8L) = ls.flatten.length
  | [] => rfl
  | x :: r => by
    have := lens_flat r
    simp only [Lib.lens, List.map_cons, List.sum_cons, List.flatten_cons, List.length_append, u8L_len] at this ⊢
    omega
theorem sl_of_fresh {B : Nat} {w : World} {v : Value} {l : List Nat} (hb : IsByte l) (h : Lib.FreshBytes B w v (u8L l)) : ∃ a c, v = .slice a l.length c ∧ Sl w a c l := by
  obtain ⟨g, cap, zs, rfl, h1, h2, h3, h4, h5, h6, h7, h8⟩ := h
  rw [u8L_len] at h2 h6 ⊢
  refine ⟨_, _, rfl, hb, h2, h3, fun e => (by cases e), .inr ⟨g, 0, rfl, fun i hi => ?_⟩⟩
  rw [Nat.zero_add, h7 i (by omega)]
  have hz : i < zs.length := by omega
  have h9 : (Lib.bytesOf (zs.take l.length))[i]? = (u8L l)[i]? := by rw [h6]
  have hr := h5 zs[i] (List.getElem_mem hz)
  have hn := hb l[i] (List.getElem_mem hi)
  simp only [Lib.bytesOf, u8L, List.getElem?_map, List.getElem?_take, if_pos hi, List.getElem?_eq_getElem hz, List.getElem?_eq_getElem hi, Option.map_some, Option.some.injEq] at h9
  have h10 : zs[i].toNat % 256 = l[i] % 256 := by
    have := congrArg UInt8.toNat h9
    simpa using this
  have e : zs.getD i 0 = zs[i] := by simp [List.getD, hz]
  rw [e]
  congr 2
  omega

theorem join_any (g cap : Nat) (ls : List (List Nat)) (A : Nat → Option Addr) (C : Nat → Nat) (w : World) (hR : Row w g 36 cap ls.length (fun j => .slice (A j) (ls.getD j []).length (C j))) (hc : ls.length ≤ cap)
    (hS : ∀ j, j < ls.length → Sl w (A j) (C j) (ls.getD j [])) (hne : ∀ x ∈ ls, x ≠ []) (hn : ls.length ≤ 1000000) (ht : ls.flatten.length ≤ 1000000) :
    Calls Tryd.prog 65 #[.slice (some ⟨g, 0, none⟩) ls.length cap, .slice none 0 0] w fun e w' => ∃ a c, e = .returned (.slice a ls.flatten.length c) ∧ Sl w' a c ls.flatten ∧ Below w.heap.size w w' := by
  have hby : ∀ x ∈ ls, IsByte x := fun x hx => by
    obtain ⟨i, hi, rfl⟩ := List.getElem_of_mem hx
    have := (hS i hi).byte
    simpa [List.getD, hi] using this
  have hbf : IsByte ls.flatten := fun n hn => by
    obtain ⟨x, hx, hnx⟩ := List.mem_flatten.1 hn
    exact hby x hx n hnx
  match ls, hR, hc, hS, hne, hn, ht, hby, hbf with
  | [], hR, hc, hS, hne, hn, ht, hby, hbf =>
    have := Any.bytes_Join_none lay_joinB (some ⟨g, 0, none⟩) cap (.slice none 0 0) w
    refine Calls.mono (P := Tryd.prog) (f := 65) this ?_
    rintro e w' ⟨rfl, rfl⟩
    exact ⟨_, 0, rfl, ⟨hbf, by simp, by simp, fun e => (by cases e), .inl rfl⟩, (Below.refl _ _).alloc (Nat.le_refl _) _⟩
  | [x], hR, hc, hS, hne, hn, ht, hby, hbf =>
    have hs0 : Sl w (A 0) (C 0) x := by simpa [List.getD] using hS 0 (by simp)
    have hx := hne x (by simp)
    have hx0 : 0 < x.length := List.length_pos_iff.2 hx
    obtain ⟨b, off, e, hb⟩ := hs0.some hx0
    have hcell : w.cell? ⟨g, 0, none⟩ = some (.slice (some ⟨b, off, none⟩) (u8L x).length (C 0)) := by
      rw [hR.cell 0 (by simp), u8L_len, e]
      simp [List.getD]
    have hh := holds_of_sl hs0
    obtain ⟨p, c', e1, _, h2⟩ := hh
    have hp : p = some ⟨b, off, none⟩ := by
      rw [e] at e1
      injection e1 with q1 _ _
      exact q1.symm
    have := Any.bytes_Join_one lay_joinB g 0 cap ⟨b, off, none⟩ (C 0) (u8L x) (.slice none 0 0) w hcell (fun i y hy => h2 _ hp i y hy) (by rw [u8L_len]; exact hx0) (by rw [u8L_len]; simp at ht; omega)
    refine Calls.mono (P := Tryd.prog) (f := 65) this ?_
    rintro e w' ⟨v, rfl, hf, hbl⟩
    have hxf : [x].flatten = x := by simp
    rw [hxf] at hbf ⊢
    obtain ⟨a, c, rfl, hsl⟩ := sl_of_fresh hbf hf
    exact ⟨a, c, rfl, hsl, hbl⟩
  | x :: y :: r, hR, hc, hS, hne, hn, ht, hby, hbf =>
    generalize hls : x :: y :: r = ls at *
    have h2 : 2 ≤ ls.length := by rw [← hls]; simp
    have hP : Lib.PartsAt w ⟨g, 0, none⟩ ((List.range ls.length).map fun j => Value.slice (A j) (ls.getD j []).length (C j)) (ls.map u8L) := by
      refine ⟨by simp, fun i v hv => ?_, fun i v l hv hl => ?_⟩
      · rw [List.getElem?_map] at hv
        obtain ⟨j, hj, rfl⟩ := Option.map_eq_some_iff.1 hv
        obtain ⟨hi, rfl⟩ := List.getElem?_eq_some_iff.1 hj
        have hi2 : i < ls.length := by simpa using hi
        have := hR.cell i hi2
        by_cases i0 : i = 0
        · subst i0; simpa [Addr.add] using this
        · simpa [Addr.add, i0] using this
      · rw [List.getElem?_map] at hv hl
        obtain ⟨j, hj, rfl⟩ := Option.map_eq_some_iff.1 hv
        obtain ⟨hi, rfl⟩ := List.getElem?_eq_some_iff.1 hj
        obtain ⟨m, hm, rfl⟩ := Option.map_eq_some_iff.1 hl
        obtain ⟨hi2, rfl⟩ := List.getElem?_eq_some_iff.1 hm
        have := hS i hi2
        have e : ls.getD i [] = ls[i] := by simp [List.getD, hi2]
        rw [e] at this
        have h := holds_of_sl this
        simpa [hi2] using h
    have := Any.bytes_Join_many lay_joinB g 0 ls.length cap _ (ls.map u8L) (.slice none 0 0) [] w (by simp) h2 hP hc ⟨none, 0, rfl, fun _ => rfl, fun a ha => by cases ha⟩ (by omega) (by rw [lens_flat, List.length_nil, Nat.zero_mul]; omega)
    refine Calls.mono (P := Tryd.prog) (f := 65) this ?_
    rintro e w' ⟨v, rfl, hf, hbl⟩
    rw [join_flat] at hf
    obtain ⟨a, c, rfl, hsl⟩ := sl_of_fresh hbf hf
    exact ⟨a, c, rfl, hsl, hbl⟩
end Go.Proofs.YtechekkojinkmaaDoor
end

section
namespace Go.Proofs.YtechekkojinkmaaDoor
open Go.ChangeShapes Go.WideShapes Go.ChangeAt Go.RowKit Go.Joins
set_option linter.unusedVariables false

/-- Pieces that a call gathered, turned round and joined. -/
theorem own_rev (B : Nat) (w : World) (v : Value) (ls : List (List Nat)) (hO : Own B w v ls) (hB : B ≤ w.heap.size) (hne : ∀ x ∈ ls, x ≠ []) (hn : ls.length ≤ 100000) (ht : ls.reverse.flatten.length ≤ 100000) :
    Calls Tryd.prog 64 #[v] w fun e w' => e = .returned (.tuple #[]) ∧ Below B w w' ∧
      Calls Tryd.prog 65 #[v, .slice none 0 0] w' fun e w'' => ∃ a c, e = .returned (.slice a ls.reverse.flatten.length c) ∧ Sl w'' a c ls.reverse.flatten ∧ Below w'.heap.size w' w'' := by
  obtain ⟨xs, ho, hxs⟩ := hO
  rcases ho.2 with ⟨rfl, h0⟩ | ⟨g, cap, cur, rfl, hg, hh, h1, h2, h3, h4⟩
  · have e : ls = [] := List.eq_nil_of_length_eq_zero h0
    subst e
    refine (reverse_none w).mono ?_
    rintro e w' ⟨rfl, rfl⟩
    refine ⟨rfl, Below.refl _ _, ?_⟩
    have := Any.bytes_Join_none lay_joinB none 0 (.slice none 0 0) w
    refine Calls.mono (P := Tryd.prog) (f := 65) this ?_
    rintro e w' ⟨rfl, rfl⟩
    exact ⟨_, 0, rfl, ⟨by simp [IsByte], by simp, by simp, fun e => (by cases e), .inl rfl⟩, (Below.refl _ _).alloc (Nat.le_refl _) _⟩
  · obtain ⟨f, hf⟩ := Go.Deep.choose_lt (α := Option Addr × Nat) (p := fun i u => ∀ hi : i < ls.length, xs[i]? = some (.slice u.1 ls[i].length u.2) ∧ Rw B w u.1 u.2 ls[i]) (n := ls.length) fun i hi => by
      obtain ⟨a, c, e1, e2⟩ := hxs i hi
      exact ⟨(a, c), fun _ => ⟨e1, e2⟩⟩
    have hgt : g < w.heap.size := (Array.getElem?_eq_some_iff.1 hh).1
    have hR : Row w g 36 cap ls.length (fun j => .slice (f j).1 (ls.getD j []).length (f j).2) := by
      refine ⟨cur, hh, by simpa using h3, fun j hj => ?_⟩
      have e := (hf j hj hj).1
      rw [← h4, Nat.mul_one, List.getElem?_take, if_pos hj] at e
      have e' : ls.getD j [] = ls[j] := by simp [List.getD, hj]
      show cur[j]? = some (Value.slice (f j).1 (ls.getD j []).length (f j).2)
      rw [e']
      simpa using e
    have hrv := reverse_any g cap ls.length (fun j => (f j).1) (fun j => (ls.getD j []).length) (fun j => (f j).2) w hR h1 h2 (by omega)
    refine hrv.mono ?_
    rintro e w' ⟨rfl, hR', hF⟩
    refine ⟨rfl, hF.below hB fun k hk e => by omega, ?_⟩
    have hlr : ls.reverse.length = ls.length := List.length_reverse
    have hgd : ∀ j, j < ls.length → ls.reverse.getD j [] = ls.getD (ls.length - 1 - j) [] := fun j hj => by
      simp only [List.getD, List.getElem?_reverse hj]
    have := join_any g cap ls.reverse (fun j => (f (ls.length - 1 - j)).1) (fun j => (f (ls.length - 1 - j)).2) w' (by
      rw [hlr]
      refine hR'.mono (Nat.le_refl _) fun j hj => ?_
      simp only [hgd j hj]) (by rw [hlr]; exact h1) (fun j hj => by
        rw [hlr] at hj
        have hj2 : ls.length - 1 - j < ls.length := by omega
        have e := (hf _ hj2 hj2).2
        rw [hgd j hj, show ls.getD (ls.length - 1 - j) [] = ls[ls.length - 1 - j] by simp [List.getD, hj2]]
        refine e.sl.of_block fun p hp hl => hF.block _ (e.sl.blk p hp hl) fun eg => ?_
        rcases e.tag hl p hp with h | ⟨cs, r, h⟩
        · omega
        · rw [eg, hh] at h
          injection h with h
          injection h with _ h
          exact absurd h (by decide)) (fun x hx => hne x (List.mem_reverse.1 hx)) (by rw [hlr]; omega) (by omega)
    rw [hlr] at this
    exact this

set_option maxRecDepth 100000 in
set_option maxHeartbeats 2000000 in
theorem end_ok (X : Nat → Prop) (w : World) (b : Nat) (l : List Nat) (q : Nat) (h : OutAt X w b (some l) q) (hq : q ≤ 50000) :
    Calls Tryd.prog 34 #[.pointer (some ⟨b, 0, none⟩)] w fun e w' => ∃ a c, e = .returned (.tuple #[.slice a l.length c, .int .i64 0]) ∧ Sl w' a c l ∧ Below w.heap.size w w' := by
  have hbl : b < w.heap.size := h.2.1 b h.1
  obtain ⟨h1, h2, p, h3, h4⟩ := h
  obtain ⟨hlq, Y, L, h6, h7, h8, h9⟩ := h4 l rfl
  have c0 := cell_of_block (i := 0) h3
  have c1 := cell_of_block (i := 1) h3
  simp only [List.getElem?_toArray, List.getElem?_cons_zero, List.getElem?_cons_succ, Option.isNone_some] at c0 c1
  have hL := h8.few
  rw [h9] at hL
  have hL2 : L.length ≤ 50000 := by omega
  have HL9 := Lib.hid h9
  have HLQ : Hid (l.length ≤ 50000) := by show _ ≤ _; omega
  have HNE : Hid (∀ x ∈ L, x ≠ []) := by
    have : ∀ (L : List (List Nat)) (p : Option Addr), Chain Y w L p → ∀ x ∈ L, x ≠ [] := by
      intro L
      induction L with
      | nil => intro p h x hx; cases hx
      | cons y L ih =>
        rintro p ⟨g, a, c, p', k1, k2, k3, k4, k5, k6, k7⟩ x hx
        rcases List.mem_cons.1 hx with rfl | hx
        · exact k5
        · exact ih p' k7 x hx
    exact this L p h8
  have HY : Hid (∀ k, Y k → k < w.heap.size) := fun k hk => h2 k (h7 k hk)
  have HC : Hid (Chain Y w L p) := h8
  have HO0 : Hid (Own w.heap.size w (.slice none 0 0) []) := Own.nil _ _
  clear h1 h2 h3 h4 h6 h7 h8 h9 hL hlq
  go_enter Tryd.func34, Tryd.ntmps34
  go_wp2_with fail
  go_loopg [4, 5] 50000 (fun gg s4 s5 wr => ∃ (M R : List (List Nat)) (pp : Option Addr), s5 = .pointer pp ∧ Hid (L = M.reverse.reverse ++ R) ∧ Hid (Chain Y w R pp) ∧ Hid (Own w.heap.size wr s4 M) ∧ Hid (Below w.heap.size w wr) ∧ R.length ≤ gg ∧ M.length + R.length ≤ 50000)
  case atStart => exact ⟨[], L, p, rfl, rfl, HC, HO0, Below.refl _ _, hL2, by simpa using hL2⟩
  case round =>
    obtain ⟨M, R, pp, rfl, HLM, HCH, HO, HB, hg, hmr⟩ := hrel
    clear HC HO0
    match R, HLM, HCH, hg, hmr with
    | [], HLM, HCH, hg, hmr =>
      have e : pp = none := HCH.out
      subst e
      have eM : L = M := by rw [HLM.out]; simp
      have HR := Lib.hid (own_rev w.heap.size wr u4 M HO.out HB.out.size (by rw [← eM]; exact HNE.out) (by rw [← eM]; omega) (by rw [← eM, HL9.out]; have := HLQ.out; omega))
      rw [← eM, HL9.out] at HR
      clear HLM HCH HO eM
      go_wp2_with fail
      (with_reducible refine HR.out.mono ?_)
      rintro e w2 ⟨rfl, hb2, hj⟩
      have HJ := Lib.hid hj
      have HB2 := Lib.hid (HB.out.trans hb2)
      clear hb2 hj HR
      go_wp2_with fail
      (with_reducible refine HJ.out.mono ?_)
      rintro e w3 ⟨a3, c3, rfl, hsl, hb3⟩
      have HS := Lib.hid hsl
      have HB3 := Lib.hid (HB2.out.trans (hb3.mono HB2.out.size))
      clear hsl hb3 HJ
      go_wp2_with fail
      go_ret2
      exact ⟨a3, c3, rfl, HS.out, HB3.out⟩
    | x :: R, HLM, HCH, hg, hmr =>
      obtain ⟨g, a, c, p', rfl, k2, k3, k4, k5, k6, k7⟩ := HCH.out
      have hgl := HY.out g k2
      have hwg := (HB.out.block g hgl).trans k3
      have d0 := cell_of_block (i := 0) hwg
      have d1 := cell_of_block (i := 1) hwg
      simp only [List.getElem?_toArray, List.getElem?_cons_zero, List.getElem?_cons_succ] at d0 d1
      have HRW : Hid (Rw w.heap.size wr a c x) := (Rw.of_sl k4).below HB.out
      have HK3 := Lib.hid k3
      have HC2 := Lib.hid k7
      have HLM2 : Hid (L = (M ++ [x]).reverse.reverse ++ R) := by show _ = _; rw [HLM.out]; simp
      have hlen : M.length ≤ 100000 := by simp at hmr; omega
      have hr2 : R.length + 1 ≤ gk := by simpa using hg
      have hmr2 : M.length + 1 + R.length ≤ 50000 := by simp at hmr; omega
      have hxl := k4.lt
      clear HCH HLM hwg k2 k3 k4 k5 k6 k7 hg hmr
      go_wp2_with (at_builtin; refine wpList_push_rows _ rfl _ _ rfl w.heap.size _ _ rfl (HO.out.keep ((Below.refl _ _).alloc (Nat.le_refl _) _)) wr.heap.size rfl a c x (by simp) (HRW.out.below ((Below.refl _ _).alloc (Nat.le_refl _) _)) (by have := HB.out.size; simp; omega) hlen ?_; intro v' w2 HO2 hk2; have HB2 := Lib.hid ((HB.out.alloc HB.out.size _).trans (hk2.below (by have := HB.out.size; simp; omega))); have e0 := cell_of_block (i := 0) ((HB2.out.block g hgl).trans HK3.out); simp only [List.getElem?_toArray, List.getElem?_cons_zero] at e0; clear hk2)
      go_roundg (gk - 1)
      case measure => omega
      case rel => exact ⟨M ++ [x], R, p', rfl, HLM2, HC2, HO2, HB2, by omega, by rw [List.length_append]; exact hmr2⟩

set_option maxRecDepth 100000 in
theorem end_bad (X : Nat → Prop) (w : World) (b q : Nat) (h : OutAt X w b none q) :
    Calls Tryd.prog 34 #[.pointer (some ⟨b, 0, none⟩)] w fun e w' => ∃ a c, e = .returned (.tuple #[.slice a 0 c, .int .i64 1]) ∧ Below w.heap.size w w' := by
  obtain ⟨h1, h2, p, h3, h4⟩ := h
  have c1 := cell_of_block (i := 1) h3
  simp only [List.getElem?_toArray, List.getElem?_cons_zero, List.getElem?_cons_succ, Option.isNone_none] at c1
  clear h1 h2 h3 h4
  go_enter Tryd.func34, Tryd.ntmps34
  go_wp2_with fail
  go_ret2
  exact ⟨none, 0, rfl, Below.refl _ _⟩
set_option maxRecDepth 100000 in
theorem end_nil (w : World) : Calls Tryd.prog 34 #[.pointer none] w fun e w' => ∃ a c, e = .returned (.tuple #[.slice a 0 c, .int .i64 1]) ∧ Below w.heap.size w w' := by
  go_enter Tryd.func34, Tryd.ntmps34
  go_wp2_with fail
  go_ret2
  exact ⟨none, 0, rfl, Below.refl _ _⟩
/-- What an Out does. -/
theorem outC : OutC OutAt :=
  ⟨OutAt.zero, fun h k hx => h.keep k hx, fun h => h.2.1, fun h hq => h.mono hq, outN_any, outT_any, outR_any, fun X w b l q h hq => end_ok X w b l q h (by omega), fun X w b q h _ => end_bad X w b q h, outN_nil, outT_nil, outR_nil, end_nil⟩
end Go.Proofs.YtechekkojinkmaaDoor
end
