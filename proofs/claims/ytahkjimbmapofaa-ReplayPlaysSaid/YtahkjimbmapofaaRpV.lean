/-
  Package replay: a new board.
-/
import Derived.Test.YtahkjimbmapofaaRpU
import Derived.Test.YtahkjimbmapofaaRpD
namespace Go.Proofs.Ytahkjimbmapofaa
open Go.ChangeShapes Go.WideShapes Go.ChangeAt Go.RowKit Go.Joins
set_option linter.unusedVariables false

/-- The first k rows, and empty ones behind. -/
def preR (rows : Rws) (k : Nat) : Rws := rows.take k ++ List.replicate (rows.length - k) []
theorem preR_len {rows : Rws} {k : Nat} (h : k ≤ rows.length) : (preR rows k).length = rows.length := by simp [preR]; omega
theorem preR_zero (rows : Rws) : preR rows 0 = List.replicate rows.length [] := by simp [preR]
theorem preR_full (rows : Rws) : preR rows rows.length = rows := by simp [preR]
theorem preR_set {rows : Rws} {k : Nat} (h : k < rows.length) : (preR rows k).set k rows[k] = preR rows (k + 1) := by
  unfold preR
  obtain ⟨m, hm⟩ : ∃ m, rows.length - k = m + 1 := ⟨rows.length - k - 1, by omega⟩
  rw [hm, show rows.length - (k + 1) = m by omega, List.replicate_succ, List.take_succ_eq_append_getElem h, List.append_assoc, List.set_append_right _ _ (by simp; omega)]
  congr 1
  rw [show k - (rows.take k).length = 0 by simp; omega]
  rfl

set_option maxRecDepth 1000000 in
set_option maxHeartbeats 4000000 in
theorem newBoard_any (a : Option Addr) (cap : Nat) (rows : Rws) (w : World) (hs : Rs w.heap.size w a cap rows) (hF : fewC rows = true) :
    Calls Try.prog 10 #[.slice a rows.length cap] w fun e w' => Below w.heap.size w w' ∧ ((alikeB rows = true ∧ ∃ b, e = .returned (.tuple #[.pointer (some ⟨b, 0, none⟩), .int .i64 0]) ∧ Brd w.heap.size w' b rows) ∨ (alikeB rows = false ∧ e = .returned (.tuple #[.pointer none, .int .i64 1]))) := by
  have h40 := (fewC_iff.1 hF).1
  have H100 := Lib.hid (fewC_iff.1 hF).2
  have HS := Lib.hid hs
  have hmk := make_grid rows.length (by omega) w
  have hlm := hs.lt
  have HQ0 : Hid (Bq w.heap.size ((w.alloc (.cells (rowArr rows.length nilV) 34)).alloc (.cells #[.slice (some ⟨w.heap.size, 0, none⟩) rows.length rows.length] 50)) (w.heap.size + 1) w.heap.size (preR rows 0)) := by
    refine ⟨by simp, by rw [preR_len (Nat.zero_le _)]; have h := heap_alloc_last (w.alloc (.cells (rowArr rows.length nilV) 34)) (.cells #[.slice (some ⟨w.heap.size, 0, none⟩) rows.length rows.length] 50); simpa using h, ?_⟩
    rw [preR_zero]
    exact (Grid.new _ _ w (Nat.le_refl _)).below ((Below.refl _ _).alloc (Nat.le_refl _) _)
  have HB0 : Hid (Below w.heap.size w ((w.alloc (.cells (rowArr rows.length nilV) 34)).alloc (.cells #[.slice (some ⟨w.heap.size, 0, none⟩) rows.length rows.length] 50))) := ((Below.refl _ _).alloc (Nat.le_refl _) _).alloc (by simp) _
  obtain ⟨b, hb⟩ : ∃ b, b = w.heap.size + 1 := ⟨_, rfl⟩
  clear hs hF
  go_enter Try.func10, Try.ntmps10
  go_wp2_with fail
  rw [← hb]
  rw [← hb] at HQ0
  obtain ⟨w1, hw1⟩ : ∃ w1, w1 = (w.alloc (.cells (rowArr rows.length nilV) 34)).alloc (.cells #[.slice (some ⟨w.heap.size, 0, none⟩) rows.length rows.length] 50) := ⟨_, rfl⟩
  rw [← hw1] at HQ0 HB0 ⊢
  clear hw1 hmk hb
  obtain ⟨B, hB⟩ : ∃ B, B = w.heap.size := ⟨_, rfl⟩
  rw [← hB] at HQ0 HB0 ⊢
  have HEQ := Lib.hid hB
  clear hB
  go_loopw [14] (fun i wr => ∃ k : Nat, k ≤ rows.length ∧ i = .int .i64 k ∧ Hid (∀ j (h : j < rows.length), j < k → rows[j].length = (rows.getD 0 []).length) ∧ Hid (Bq B wr b B (preR rows k)) ∧ Hid (Below B w wr)) (fun i _ => rows.length - (intOf i).toNat)
  case atStart => exact ⟨0, by omega, rfl, fun j _ hj => by omega, HQ0, HB0⟩
  case round =>
    obtain ⟨k, hk, rfl, HT, HQ, HB⟩ := hrel
    clear HQ0 HB0
    by_cases hlt : k < rows.length
    · obtain ⟨rb, ro, rfl, hrb, ai, ci, hcell, hsl⟩ := rs_row (HS.out.later (by have h := HB.out; rw [HEQ.out] at h; exact h)) hlt
      obtain ⟨rb2, ro2, hrbe, hrb2, az, cz, hcellz, hslz⟩ := rs_row (HS.out.later (by have h := HB.out; rw [HEQ.out] at h; exact h)) (i := 0) (by omega)
      have hre := congrArg (fun o : Option Addr => o.map fun p => (p.block, p.off)) hrbe
      simp only [Option.map_some, Option.some.injEq, Prod.mk.injEq] at hre
      obtain ⟨e1, e2⟩ := hre
      subst e1
      subst e2
      rw [Nat.add_zero] at hcellz
      have hkz : (k : Int) < (rows.length : Int) := by omega
      have h0z : (0 : Int) < (rows.length : Int) := by omega
      have hl1 := hsl.lt
      have hl2 := hslz.lt
      have hl100 := H100.out _ (List.getElem_mem hlt)
      have HG : Hid (rows.getD 0 [] = rows[0]) := getR (by omega)
      have HPS := Lib.hid (preR_set hlt)
      have HPL : Hid (k < (preR rows k).length) := by show _ < _; rw [preR_len hk]; exact hlt
      clear hrbe
      by_cases he : rows[k].length = rows[0].length
      · have HX : Hid (∀ j (h : j < rows.length), j < k + 1 → rows[j].length = (rows.getD 0 []).length) := fun j h hj => by
          by_cases e : j = k
          · subst e; rw [HG.out]; exact he
          · exact HT.out j h (by omega)
        obtain ⟨x, hx⟩ : ∃ x, x = rows[k] := ⟨_, rfl⟩
        obtain ⟨x0, hx0⟩ : ∃ x, x = rows[0] := ⟨_, rfl⟩
        rw [← hx] at hcell hsl hl1 hl100 he HPS
        rw [← hx0] at hcellz hslz hl2 he
        rw [← he] at hcellz
        clear hx hx0 hslz he HG HT
        have hne : ((x.length : Int) != (x.length : Int)) = false := by simp
        obtain ⟨wd, hwd⟩ : ∃ wd, wd = wr.drew := ⟨_, rfl⟩
        have HDd : Hid (Below wr.heap.size wr wd) := by rw [hwd]; exact (Below.refl _ _).drew
        have HQd := Lib.hid (HQ.out.keep HDd.out)
        have HBd := Lib.hid (HB.out.trans (HDd.out.mono (Nat.le_trans HQ.out.low (Nat.le_of_lt HQ.out.lt))))
        have u0 : ∀ u : Up wd, u.v.cell? ⟨b, 0, none⟩ = some (.slice (some ⟨B, 0, none⟩) rows.length rows.length) := fun u => by
          have h := u.cell HQd.out.cell
          rw [preR_len hk] at h
          exact h
        have HCL := Lib.hid (clone_any ai ci x wd (by omega) (hsl.below HDd.out))
        clear hsl HDd HQ HB
        go_wp2_with fail
        refine growK_begin 8 (fun w' => ∃ u : Up wd, w' = u.v) (by kernel_rfl) ?_
        rw [← hwd]
        clear hwd
        refine growK_take (by kernel_rfl) [0, 1, 2, 3, 4, 5] 3 _ _ (by kernel_rfl) _ (up_class (Fr.refl _ _)) ?_
        simp only [opsAt, List.getElem?_toArray, List.getElem?_cons_succ, List.getElem?_cons_zero]
        repeat (first | go_big_quiet_step (fail) | quiet_step (fail))
        refine wpQuiet_nil ?_
        refine growK_one 6 (by kernel_rfl) (fun K hK => ?_)
        simp only [stepOf, List.getElem?_toArray, List.getElem?_cons_succ, List.getElem?_cons_zero]
        go_simp
        go_at_call 19
        (with_reducible refine HCL.out.mono ?_)
        rintro e w9 ⟨a9, c9, rfl, hr9, b9⟩
        have HQ9 := Lib.hid (HQd.out.keep b9)
        have HB9 := Lib.hid (HBd.out.trans (b9.mono (Nat.le_trans HQd.out.low (Nat.le_of_lt HQd.out.lt))))
        have fr9 : Fr (fun _ => False) wd w9 := Fr.of_below b9
        refine hK.out _ _ (up_class fr9) ?_
        clear hK K HCL b9 HQd HBd
        refine growK_take (by kernel_rfl) [7] 1 _ _ (by kernel_rfl) _ (up_class fr9) ?_
        simp only [opsAt, List.getElem?_toArray, List.getElem?_cons_succ, List.getElem?_cons_zero]
        repeat (first | go_big_quiet_step (fail) | quiet_step (fail))
        refine wpQuiet_nil ?_
        clear u0 fr9
        have f9 := HQ9.out.grid.loose k
        obtain ⟨_, _, k9, _⟩ := HQ9.out.grid.cell HPL.out
        refine growK_last (by kernel_rfl) (by kernel_rfl) (fun K hK => ?_)
        simp only [stepOf, List.getElem?_toArray, List.getElem?_cons_succ, List.getElem?_cons_zero]
        go_simp
        refine hK.out _ _ ?_
        clear hK K
        have HQN : Hid (Bq B (w9.setCell ⟨B, k, none⟩ (.slice a9 x.length c9)) b B (preR rows (k + 1))) := by
          have h := HQ9.out.set HPL.out hr9.raise0
          rw [HPS.out] at h
          exact h
        have HBN : Hid (Below B w (w9.setCell ⟨B, k, none⟩ (.slice a9 x.length c9))) := HQ9.out.set_below HB9.out _ _
        clear f9 k9 HQ9 HB9
        go_wp2_with fail
        go_roundw
        case rel => exact ⟨k + 1, by omega, by go_num, HX, HQN, HBN⟩
        case measure => simp [intOf]; omega
      · have HF : Hid (alikeB rows = false) := by
          show _ = _
          rw [Bool.eq_false_iff]
          intro h
          exact he (by rw [← HG.out]; exact alikeB_iff.1 h _ (List.getElem_mem hlt))
        obtain ⟨x, hx⟩ : ∃ x, x = rows[k] := ⟨_, rfl⟩
        obtain ⟨x0, hx0⟩ : ∃ x, x = rows[0] := ⟨_, rfl⟩
        rw [← hx] at hcell hsl hl1 he
        rw [← hx0] at hcellz hslz hl2 he
        have hne : ((x.length : Int) != (x0.length : Int)) = true := by simp; omega
        clear hx hx0 hslz hsl HG HT HPS HPL HQ
        go_wp2_with fail
        go_ret2
        exact ⟨by have h := HB.out; rw [HEQ.out] at h; exact h, .inr ⟨HF.out, rfl⟩⟩
    · obtain rfl : k = rows.length := by omega
      have HA : Hid (alikeB rows = true) := by
        show _ = _
        rw [alikeB_iff]
        intro x hx
        obtain ⟨i, hi, rfl⟩ := List.getElem_of_mem hx
        exact HT.out i hi hi
      go_wp2_with fail
      go_ret2
      exact ⟨by have h := HB.out; rw [HEQ.out] at h; exact h, .inl ⟨HA.out, b, rfl, B, by rw [← HEQ.out]; rw [← preR_full rows]; exact HQ.out⟩⟩
end Go.Proofs.Ytahkjimbmapofaa
