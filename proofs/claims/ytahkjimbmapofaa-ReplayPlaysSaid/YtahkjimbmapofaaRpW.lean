/-
  Package replay: what is done to a board, and its slots.
-/
import Derived.Test.YtahkjimbmapofaaRpV
namespace Go.Proofs.Ytahkjimbmapofaa
open Go.ChangeShapes Go.WideShapes Go.ChangeAt Go.RowKit Go.Joins
set_option linter.unusedVariables false

theorem Bq.slot {B : Nat} {w : World} {b g : Nat} {rows : Rws} (h : Bq B w b g rows) {i : Nat} (hi : i < rows.length) : ∃ x a c, x = rows[i] ∧ w.cell? ⟨g, i, none⟩ = some (.slice a x.length c) ∧ Rw B w a c x := by
  obtain ⟨a, c, e1, e2⟩ := h.grid.cell hi
  exact ⟨_, a, c, rfl, e1, e2⟩
theorem has_in {B : Nat} {w : World} {b : Nat} {rows : Rws} {z : Int} (hb : Brd B w b rows) (h4 : rows.length ≤ 1000) (h : inS rows.length z) :
    Calls Try.prog 20 #[.pointer (some ⟨b, 0, none⟩), .int .i64 z] w fun e w' => e = .returned (.bool true) ∧ w = w' := by
  have k := has_any B w b rows z hb h4 (by have := h.1; omega) (by have := h.2; omega)
  rw [decide_eq_true h] at k
  exact k
theorem has_out {B : Nat} {w : World} {b : Nat} {rows : Rws} {z : Int} (hb : Brd B w b rows) (h4 : rows.length ≤ 1000) (h1 : -9223372036854775808 ≤ z ∧ z ≤ 9223372036854775807) (h : ¬ inS rows.length z) :
    Calls Try.prog 20 #[.pointer (some ⟨b, 0, none⟩), .int .i64 z] w fun e w' => e = .returned (.bool false) ∧ w = w' := by
  have k := has_any B w b rows z hb h4 h1.1 h1.2
  rw [decide_eq_false h] at k
  exact k

set_option maxRecDepth 1000000 in
set_option maxHeartbeats 4000000 in
theorem bdScale_any (B : Nat) (w : World) (b : Nat) (rows : Rws) (t c : Nat) (hb : Brd B w b rows) (hF : fewC rows = true) (ht : t < rows.length) (hc : c < 256) :
    Calls Try.prog 11 #[.pointer (some ⟨b, 0, none⟩), .int .i64 (t : Int), .int .u8 (c : Int)] w fun e w' => e = .returned (.int .i64 0) ∧ Brd B w' b (rows.set t (scaleN (rows.getD t []) c)) ∧ Below B w w' := by
  have h40 := few_lt hF
  have hl100 := (fewC_iff.1 hF).2 _ (List.getElem_mem ht)
  have HH := Lib.hid (has_in hb (by omega) (z := (t : Int)) ⟨by omega, by omega⟩)
  rw [getR ht]
  obtain ⟨g, hq⟩ := hb
  have htz : (t : Int) < (rows.length : Int) := by omega
  have HTL : Hid (t < rows.length) := ht
  obtain ⟨wd, hwd⟩ : ∃ wd, wd = w.drew := ⟨_, rfl⟩
  have hdd : Below w.heap.size w wd := by rw [hwd]; exact (Below.refl _ _).drew
  have HQ := Lib.hid (hq.keep hdd)
  have HB := Lib.hid (hdd.mono (Nat.le_trans hq.low (Nat.le_of_lt hq.lt)))
  have u0 : ∀ u : Up wd, u.v.cell? ⟨b, 0, none⟩ = some (.slice (some ⟨g, 0, none⟩) rows.length rows.length) := fun u => u.cell HQ.out.cell
  obtain ⟨x, ai, ci, hx, hcell, hrw⟩ := HQ.out.slot ht
  rw [← hx] at hl100 ⊢
  have u1 : ∀ u : Up wd, u.v.cell? ⟨g, t, none⟩ = some (.slice ai x.length ci) := fun u => u.cell hcell
  obtain ⟨y, hy⟩ : ∃ y, y = scaleN x c := ⟨_, rfl⟩
  have HCL : Hid (Calls Try.prog 21 #[.slice ai x.length ci, .int .u8 (c : Int)] wd fun e w9 => ∃ a9 c9, e = .returned (.slice a9 y.length c9) ∧ Rw B w9 a9 c9 y ∧ Below wd.heap.size wd w9) := by
    refine (scale_any ai ci x c wd (by omega) hc hrw.sl).mono ?_
    rintro e w9 ⟨rfl, hn9⟩
    have h : NewTo wd w9 (scaleN x c) (scaleN x c).length := by rw [scaleN_len]; exact hn9
    have k := Rw.of_new (B := B) h (scaleN_byte x c hrw.sl.byte) (by rw [scaleN_len]; omega)
    rw [← hy] at k
    exact ⟨_, x.length, by rw [hy, scaleN_len], by rw [show x.length = y.length by rw [hy, scaleN_len]]; exact k, hn9.below⟩
  rw [← hy]
  clear hcell hrw hx hq hF ht hdd hy
  go_enter Try.func11, Try.ntmps11
  go_wp2_with fail
  (with_reducible refine HH.out.mono ?_)
  rintro e w' ⟨rfl, rfl⟩
  clear HH
  go_wp2_with fail
  refine growK_begin 15 (fun w' => ∃ u : Up wd, w' = u.v) (by kernel_rfl) ?_
  rw [← hwd]
  clear hwd
  refine growK_take (by kernel_rfl) [0, 1, 2, 3, 4, 5, 6, 7, 8, 9, 10, 11, 12] 3 _ _ (by kernel_rfl) _ (up_class (Fr.refl _ _)) ?_
  simp only [opsAt, List.getElem?_toArray, List.getElem?_cons_succ, List.getElem?_cons_zero]
  repeat (first | go_big_quiet_step (fail) | quiet_step (fail))
  refine wpQuiet_nil ?_
  refine growK_one 13 (by kernel_rfl) (fun K hK => ?_)
  simp only [stepOf, List.getElem?_toArray, List.getElem?_cons_succ, List.getElem?_cons_zero]
  go_simp
  go_at_call 21
  (with_reducible refine HCL.out.mono ?_)
  rintro e w9 ⟨a9, c9, rfl, hr9, b9⟩
  have HQ9 := Lib.hid (HQ.out.keep b9)
  have HB9 := Lib.hid (HB.out.trans (b9.mono (Nat.le_trans HQ.out.low (Nat.le_of_lt HQ.out.lt))))
  have fr9 : Fr (fun _ => False) wd w9 := Fr.of_below b9
  have HR9 := Lib.hid hr9
  refine hK.out _ _ (up_class fr9) ?_
  clear hK K HCL b9 HQ HB hr9 u1
  refine growK_take (by kernel_rfl) [14] 1 _ _ (by kernel_rfl) _ (up_class fr9) ?_
  simp only [opsAt, List.getElem?_toArray, List.getElem?_cons_succ, List.getElem?_cons_zero]
  repeat (first | go_big_quiet_step (fail) | quiet_step (fail))
  refine wpQuiet_nil ?_
  clear u0 fr9
  have f9 := HQ9.out.grid.loose t
  obtain ⟨_, _, k9, _⟩ := HQ9.out.grid.cell HTL.out
  refine growK_last (by kernel_rfl) (by kernel_rfl) (fun K hK => ?_)
  simp only [stepOf, List.getElem?_toArray, List.getElem?_cons_succ, List.getElem?_cons_zero]
  go_simp
  refine hK.out _ _ ?_
  clear hK K
  have HQN : Hid (Bq B (w9.setCell ⟨g, t, none⟩ (.slice a9 y.length c9)) b g (rows.set t y)) := HQ9.out.set HTL.out HR9.out
  have HBN : Hid (Below B w (w9.setCell ⟨g, t, none⟩ (.slice a9 y.length c9))) := HQ9.out.set_below HB9.out _ _
  clear f9 k9 HQ9 HB9
  go_wp2_with fail
  go_ret
  exact ⟨rfl, ⟨g, HQN.out⟩, HBN.out⟩

set_option maxRecDepth 1000000 in
set_option maxHeartbeats 4000000 in
theorem bdAdd_any (B : Nat) (w : World) (b : Nat) (rows : Rws) (t f c : Nat) (hb : Brd B w b rows) (hF : fewC rows = true) (hA : alikeB rows = true) (ht : t < rows.length) (hf : f < rows.length) (hne : t ≠ f) (hc : c < 256) :
    Calls Try.prog 12 #[.pointer (some ⟨b, 0, none⟩), .int .i64 (t : Int), .int .i64 (f : Int), .int .u8 (c : Int)] w fun e w' => e = .returned (.int .i64 0) ∧ Brd B w' b (rows.set t (plusN (rows.getD t []) (rows.getD f []) c)) ∧ Below B w w' := by
  have h40 := few_lt hF
  have hl100 := (fewC_iff.1 hF).2 _ (List.getElem_mem ht)
  have hle : rows[t].length = rows[f].length := (alikeB_iff.1 hA _ (List.getElem_mem ht)).trans (alikeB_iff.1 hA _ (List.getElem_mem hf)).symm
  have HH := Lib.hid (has_in hb (by omega) (z := (t : Int)) ⟨by omega, by omega⟩)
  have HH2 := Lib.hid (has_in hb (by omega) (z := (f : Int)) ⟨by omega, by omega⟩)
  rw [getR ht, getR hf]
  obtain ⟨g, hq⟩ := hb
  have htz : (t : Int) < (rows.length : Int) := by omega
  have hfz : (f : Int) < (rows.length : Int) := by omega
  have hnz : ((t : Int) == (f : Int)) = false := by simp; omega
  have HTL : Hid (t < rows.length) := ht
  obtain ⟨wd, hwd⟩ : ∃ wd, wd = w.drew := ⟨_, rfl⟩
  have hdd : Below w.heap.size w wd := by rw [hwd]; exact (Below.refl _ _).drew
  have HQ := Lib.hid (hq.keep hdd)
  have HB := Lib.hid (hdd.mono (Nat.le_trans hq.low (Nat.le_of_lt hq.lt)))
  have u0 : ∀ u : Up wd, u.v.cell? ⟨b, 0, none⟩ = some (.slice (some ⟨g, 0, none⟩) rows.length rows.length) := fun u => u.cell HQ.out.cell
  obtain ⟨x, ai, ci, hx, hcell, hrw⟩ := HQ.out.slot ht
  obtain ⟨z, ai2, ci2, hz, hcell2, hrw2⟩ := HQ.out.slot hf
  rw [← hx] at hl100 hle ⊢
  rw [← hz] at hle ⊢
  have u1 : ∀ u : Up wd, u.v.cell? ⟨g, t, none⟩ = some (.slice ai x.length ci) := fun u => u.cell hcell
  have u2 : ∀ u : Up wd, u.v.cell? ⟨g, f, none⟩ = some (.slice ai2 z.length ci2) := fun u => u.cell hcell2
  obtain ⟨y, hy⟩ : ∃ y, y = plusN x z c := ⟨_, rfl⟩
  have HCL : Hid (Calls Try.prog 22 #[.slice ai x.length ci, .slice ai2 z.length ci2, .int .u8 (c : Int)] wd fun e w9 => ∃ a9 c9, e = .returned (.tuple #[.slice a9 y.length c9, .int .i64 0]) ∧ Rw B w9 a9 c9 y ∧ Below wd.heap.size wd w9) := by
    refine (axpy_same ai ai2 ci ci2 x z c wd (by omega) hc hle hrw.sl hrw2.sl).mono ?_
    rintro e w9 ⟨rfl, hn9⟩
    have hpl : (plusN x z c).length = x.length := plusN_len x z c (by rw [hle]; exact Nat.le_refl _)
    have h : NewTo wd w9 (plusN x z c) (plusN x z c).length := by rw [hpl]; exact hn9
    have k := Rw.of_new (B := B) h (plusN_byte x z c hrw.sl.byte hrw2.sl.byte) (by rw [hpl]; omega)
    rw [← hy] at k
    exact ⟨_, x.length, by rw [hy, hpl], by rw [show x.length = y.length by rw [hy, hpl]]; exact k, hn9.below⟩
  rw [← hy]
  clear hcell hrw hx hq hF ht hdd hy hz hcell2 hrw2 hA hf hne hle
  go_enter Try.func12, Try.ntmps12
  go_wp2_with fail
  (with_reducible refine HH.out.mono ?_)
  rintro e w' ⟨rfl, rfl⟩
  clear HH
  go_wp2_with fail
  (with_reducible refine HH2.out.mono ?_)
  rintro e w' ⟨rfl, rfl⟩
  clear HH2
  go_wp2_with fail
  refine growK_begin 25 (fun w' => ∃ u : Up wd, w' = u.v) (by kernel_rfl) ?_
  rw [← hwd]
  clear hwd
  refine growK_take (by kernel_rfl) [0, 1, 2, 3, 4, 5, 6, 7, 8, 9, 10, 11, 12, 13, 14, 15, 16, 17, 18, 19] 6 _ _ (by kernel_rfl) _ (up_class (Fr.refl _ _)) ?_
  simp only [opsAt, List.getElem?_toArray, List.getElem?_cons_succ, List.getElem?_cons_zero]
  repeat (first | go_big_quiet_step (fail) | quiet_step (fail))
  refine wpQuiet_nil ?_
  refine growK_one 20 (by kernel_rfl) (fun K hK => ?_)
  simp only [stepOf, List.getElem?_toArray, List.getElem?_cons_succ, List.getElem?_cons_zero]
  go_simp
  go_at_call 22
  (with_reducible refine HCL.out.mono ?_)
  rintro e w9 ⟨a9, c9, rfl, hr9, b9⟩
  have HQ9 := Lib.hid (HQ.out.keep b9)
  have HB9 := Lib.hid (HB.out.trans (b9.mono (Nat.le_trans HQ.out.low (Nat.le_of_lt HQ.out.lt))))
  have fr9 : Fr (fun _ => False) wd w9 := Fr.of_below b9
  have HR9 := Lib.hid hr9
  refine hK.out _ _ (up_class fr9) ?_
  clear hK K HCL b9 HQ HB hr9 u1 u2
  refine growK_take (by kernel_rfl) [21, 22, 23, 24] 1 _ _ (by kernel_rfl) _ (up_class fr9) ?_
  simp only [opsAt, List.getElem?_toArray, List.getElem?_cons_succ, List.getElem?_cons_zero]
  repeat (first | go_big_quiet_step (fail) | quiet_step (fail))
  refine wpQuiet_nil ?_
  clear u0 fr9
  have f9 := HQ9.out.grid.loose t
  obtain ⟨_, _, k9, _⟩ := HQ9.out.grid.cell HTL.out
  refine growK_last (by kernel_rfl) (by kernel_rfl) (fun K hK => ?_)
  simp only [stepOf, List.getElem?_toArray, List.getElem?_cons_succ, List.getElem?_cons_zero]
  go_simp
  refine hK.out _ _ ?_
  clear hK K
  have HQN : Hid (Bq B (w9.setCell ⟨g, t, none⟩ (.slice a9 y.length c9)) b g (rows.set t y)) := HQ9.out.set HTL.out HR9.out
  have HBN : Hid (Below B w (w9.setCell ⟨g, t, none⟩ (.slice a9 y.length c9))) := HQ9.out.set_below HB9.out _ _
  clear f9 k9 HQ9 HB9
  go_wp2_with fail
  go_ret
  exact ⟨rfl, ⟨g, HQN.out⟩, HBN.out⟩

set_option maxRecDepth 1000000 in
theorem bdSlot_any (B : Nat) (w : World) (b : Nat) (rows : Rws) (n : Nat) (h : n < rows.length) (hb : Brd B w b rows) (hF : fewC rows = true) :
    Calls Try.prog 13 #[.pointer (some ⟨b, 0, none⟩), .int .i64 (n : Int)] w fun e w' => ∃ sa sc, e = .returned (.slice sa rows[n].length sc) ∧ Rw 0 w' sa sc rows[n] ∧ Below w.heap.size w w' := by
  have h40 := few_lt hF
  have hl100 := (fewC_iff.1 hF).2 _ (List.getElem_mem h)
  have HH := Lib.hid (has_in hb (by omega) (z := (n : Int)) ⟨by omega, by omega⟩)
  obtain ⟨g, hq⟩ := hb
  have c0 := hq.cell
  obtain ⟨x, ai, ci, hx, c1, hrw⟩ := hq.slot h
  rw [← hx] at hl100 ⊢
  have hnz : (n : Int) < (rows.length : Int) := by omega
  have HCL := Lib.hid (clone_any ai ci x w (by omega) hrw.sl)
  clear hq hrw hx hF
  go_enter Try.func13, Try.ntmps13
  go_wp2_with fail
  (with_reducible refine HH.out.mono ?_)
  rintro e w' ⟨rfl, rfl⟩
  clear HH
  go_wp2_with fail
  (with_reducible refine HCL.out.mono ?_)
  rintro e w' ⟨sa, sc, rfl, h1, h2⟩
  have HR := Lib.hid (And.intro h1 h2)
  clear h1 h2 HCL
  go_wp2_with fail
  go_ret
  exact ⟨sa, sc, rfl, HR.out⟩
set_option maxRecDepth 1000000 in
theorem bdSlot_bad (p : Option Addr) (w : World) (z : Int) (hh : Calls Try.prog 20 #[.pointer p, .int .i64 z] w fun e w' => e = .returned (.bool false) ∧ w = w') :
    Calls Try.prog 13 #[.pointer p, .int .i64 z] w fun e w' => ∃ sa sc, e = .returned (.slice sa 0 sc) ∧ Below w.heap.size w w' := by
  have HH := Lib.hid hh
  clear hh
  go_enter Try.func13, Try.ntmps13
  go_wp2_with fail
  (with_reducible refine HH.out.mono ?_)
  rintro e w' ⟨rfl, rfl⟩
  clear HH
  go_wp2_with fail
  go_ret
  exact ⟨none, 0, rfl, Below.refl _ _⟩
set_option maxRecDepth 1000000 in
theorem bdScale_bad (p : Option Addr) (w : World) (z : Int) (c : Nat) (hh : Calls Try.prog 20 #[.pointer p, .int .i64 z] w fun e w' => e = .returned (.bool false) ∧ w = w') :
    Calls Try.prog 11 #[.pointer p, .int .i64 z, .int .u8 (c : Int)] w fun e w' => e = .returned (.int .i64 1) ∧ w = w' := by
  have HH := Lib.hid hh
  clear hh
  go_enter Try.func11, Try.ntmps11
  go_wp2_with fail
  (with_reducible refine HH.out.mono ?_)
  rintro e w' ⟨rfl, rfl⟩
  clear HH
  go_wp2_with fail
  go_ret
  exact ⟨rfl, rfl⟩
set_option maxRecDepth 1000000 in
theorem bdAdd_bad1 (p : Option Addr) (w : World) (t f : Int) (c : Nat) (hh : Calls Try.prog 20 #[.pointer p, .int .i64 t] w fun e w' => e = .returned (.bool false) ∧ w = w') :
    Calls Try.prog 12 #[.pointer p, .int .i64 t, .int .i64 f, .int .u8 (c : Int)] w fun e w' => e = .returned (.int .i64 1) ∧ w = w' := by
  have HH := Lib.hid hh
  clear hh
  go_enter Try.func12, Try.ntmps12
  go_wp2_with fail
  (with_reducible refine HH.out.mono ?_)
  rintro e w' ⟨rfl, rfl⟩
  clear HH
  go_wp2_with fail
  go_ret
  exact ⟨rfl, rfl⟩
set_option maxRecDepth 1000000 in
theorem bdAdd_bad2 (p : Option Addr) (w : World) (t f : Int) (c : Nat) (v : Bool) (hh : Calls Try.prog 20 #[.pointer p, .int .i64 t] w fun e w' => e = .returned (.bool true) ∧ w = w')
    (hh2 : Calls Try.prog 20 #[.pointer p, .int .i64 f] w fun e w' => e = .returned (.bool v) ∧ w = w') (hv : v = false ∨ t = f) :
    Calls Try.prog 12 #[.pointer p, .int .i64 t, .int .i64 f, .int .u8 (c : Int)] w fun e w' => e = .returned (.int .i64 1) ∧ w = w' := by
  have HH := Lib.hid hh
  have HH2 := Lib.hid hh2
  clear hh hh2
  cases v with
  | false =>
    clear hv
    go_enter Try.func12, Try.ntmps12
    go_wp2_with fail
    (with_reducible refine HH.out.mono ?_)
    rintro e w' ⟨rfl, rfl⟩
    clear HH
    go_wp2_with fail
    (with_reducible refine HH2.out.mono ?_)
    rintro e w' ⟨rfl, rfl⟩
    clear HH2
    go_wp2_with fail
    go_ret
    exact ⟨rfl, rfl⟩
  | true =>
    obtain rfl : t = f := hv.resolve_left (by decide)
    have hnz : (t == t) = true := by simp
    clear hv
    go_enter Try.func12, Try.ntmps12
    go_wp2_with fail
    (with_reducible refine HH.out.mono ?_)
    rintro e w' ⟨rfl, rfl⟩
    clear HH
    go_wp2_with fail
    (with_reducible refine HH2.out.mono ?_)
    rintro e w' ⟨rfl, rfl⟩
    clear HH2
    go_wp2_with fail
    go_ret
    exact ⟨rfl, rfl⟩

/-- What package replay answers. -/
theorem repC : RepC Brd where
  keep := fun h k => h.keep k
  base := fun h => h.base
  new := fun a cap rows w hs hF hA => (newBoard_any a cap rows w hs hF).mono fun e w' h => by
    obtain ⟨h1, ⟨_, b, rfl, h2⟩ | ⟨h2, _⟩⟩ := h
    · exact ⟨b, rfl, h2, h1⟩
    · rw [hA] at h2; cases h2
  newBad := fun a cap rows w hs hF hA => (newBoard_any a cap rows w hs hF).mono fun e w' h => by
    obtain ⟨h1, ⟨h2, _⟩ | ⟨_, rfl⟩⟩ := h
    · rw [hA] at h2; cases h2
    · exact ⟨rfl, h1⟩
  add := fun B w b rows t f c hb hF hA ht hf hne hc => bdAdd_any B w b rows t f c hb hF hA ht hf hne hc
  addBad := fun B w b rows t f c hb hF h1 h2 hc hno => by
    have h40 := few_lt hF
    have key : Calls Try.prog 12 #[.pointer (some ⟨b, 0, none⟩), .int .i64 t, .int .i64 f, .int .u8 (c : Int)] w fun e w' => e = .returned (.int .i64 1) ∧ w = w' := by
      by_cases g1 : inS rows.length t
      · by_cases g2 : inS rows.length f
        · have e : t = f := Classical.byContradiction fun e => hno ⟨g1, g2, e⟩
          exact bdAdd_bad2 _ w t f c true (has_in hb (by omega) g1) (has_in hb (by omega) g2) (.inr e)
        · exact bdAdd_bad2 _ w t f c false (has_in hb (by omega) g1) (has_out hb (by omega) h2 g2) (.inl rfl)
      · exact bdAdd_bad1 _ w t f c (has_out hb (by omega) h1 g1)
    refine key.mono ?_
    rintro e w' ⟨rfl, rfl⟩
    exact ⟨rfl, hb, Below.refl _ _⟩
  scale := fun B w b rows t c hb hF ht hc => bdScale_any B w b rows t c hb hF ht hc
  scaleBad := fun B w b rows t c hb hF h1 hc hno => by
    have h40 := few_lt hF
    refine (bdScale_bad _ w t c (has_out hb (by omega) h1 hno)).mono ?_
    rintro e w' ⟨rfl, rfl⟩
    exact ⟨rfl, hb, Below.refl _ _⟩
  slot := fun B w b rows n h hb hF => (bdSlot_any B w b rows n h hb hF).mono fun e w' ⟨sa, sc, h1, h2, h3⟩ => ⟨sa, sc, h1, h2.sl, h3⟩
  slotBad := fun B w b rows n hb hF h1 hno => by
    have h40 := few_lt hF
    exact bdSlot_bad _ w n (has_out hb (by omega) h1 hno)
  nilAdd := fun w t f c h1 h2 hc => by
    refine (bdAdd_bad1 none w t f c (has_nil w t h1.1 h1.2)).mono ?_
    rintro e w' ⟨rfl, rfl⟩
    exact ⟨rfl, Below.refl _ _⟩
  nilScale := fun w t c h1 hc => by
    refine (bdScale_bad none w t c (has_nil w t h1.1 h1.2)).mono ?_
    rintro e w' ⟨rfl, rfl⟩
    exact ⟨rfl, Below.refl _ _⟩
  nilSlot := fun w t h1 => bdSlot_bad none w t (has_nil w t h1.1 h1.2)
end Go.Proofs.Ytahkjimbmapofaa
