/-
  What a disk asks ahead of a change, and what it tells of itself.
-/
import Derived.Test.YtoiggdcgfbjhpaaDskA
namespace Go.Proofs.Ytoiggdcgfbjhpaa
open Go.ChangeShapes Go.WideShapes Go.ChangeAt Go.RowKit Go.Joins
set_option linter.unusedVariables false

/-- Fault and fuse are asked. -/
def passD (x : Dk) : Int × Dk :=
  if (dueD x.gs x.gl).1 then (10, { x with gs := (dueD x.gs x.gl).2.1, gl := (dueD x.gs x.gl).2.2 })
  else if (dueD x.fs x.fl).1 then (6, { x with gs := (dueD x.gs x.gl).2.1, gl := (dueD x.gs x.gl).2.2, fs := (dueD x.fs x.fl).2.1, fl := (dueD x.fs x.fl).2.2, lost := true })
  else (0, { x with gs := (dueD x.gs x.gl).2.1, gl := (dueD x.gs x.gl).2.2, fs := (dueD x.fs x.fl).2.1, fl := (dueD x.fs x.fl).2.2 })

theorem pass_any {w : World} {B : Nat} {x : Dk} (h : DkAt w B x) : Calls Try.prog 35 #[.pointer (some ⟨B, 0, none⟩)] w fun e w' => e = .returned (.int .i64 (passD x).1) ∧ DkAt w' B (passD x).2 ∧ Only B w w' := by
  have H := Lib.hid h
  have hg := due_fault h
  clear h
  cases h1 : (dueD x.gs x.gl).1 with
  | true =>
    have HP : Hid (passD x = (10, { x with gs := (dueD x.gs x.gl).2.1, gl := (dueD x.gs x.gl).2.2 })) := by show _ = _; simp [passD, h1]
    rw [h1] at hg
    generalize ({ x with gs := (dueD x.gs x.gl).2.1, gl := (dueD x.gs x.gl).2.2 } : Dk) = y at *
    go_enter Try.func35, Try.ntmps35
    go_wp2_with fail
    (with_reducible refine hg.mono ?_)
    rintro e w1 ⟨rfl, d1, o1⟩
    have H1 := Lib.hid (And.intro d1 o1)
    clear hg d1 o1
    go_wp2_with fail
    go_ret
    rw [HP.out]
    exact ⟨rfl, H1.out.1, H1.out.2⟩
  | false =>
    rw [h1] at hg
    have hf : ∀ w1, DkAt w1 B { x with gs := (dueD x.gs x.gl).2.1, gl := (dueD x.gs x.gl).2.2 } → _ := fun w1 h => due_fuse h
    have HF := Lib.hid hf
    clear hf
    cases h2 : (dueD x.fs x.fl).1 with
    | true =>
      have HP : Hid (passD x = (6, { x with gs := (dueD x.gs x.gl).2.1, gl := (dueD x.gs x.gl).2.2, fs := (dueD x.fs x.fl).2.1, fl := (dueD x.fs x.fl).2.2, lost := true })) := by show _ = _; simp [passD, h1, h2]
      go_enter Try.func35, Try.ntmps35
      go_wp2_with fail
      (with_reducible refine hg.mono ?_)
      rintro e w1 ⟨rfl, d1, o1⟩
      have O1 := Lib.hid o1
      have hf := HF.out w1 d1
      simp only [h2] at hf
      clear hg d1 o1
      go_wp2_with fail
      (with_reducible refine hf.mono ?_)
      rintro e w2 ⟨rfl, d2, o2⟩
      have O2 := Lib.hid (O1.out.trans o2)
      have D2 := Lib.hid d2
      have c9 := d2.cell 9
      have f9 := d2.loose 9
      have ok := d2.ok
      have D3 : Hid (DkAt (w2.setCell ⟨B, 9, none⟩ (.bool true)) B { x with gs := (dueD x.gs x.gl).2.1, gl := (dueD x.gs x.gl).2.2, fs := (dueD x.fs x.fl).2.1, fl := (dueD x.fs x.fl).2.2, lost := true }) :=
        d2.set 9 (.bool true) ⟨ok.cap1, ok.cap2, ok.used1, ok.used2, ok.fl1, ok.fl2, ok.gl1, ok.gl2, ok.len⟩ (by simp [Dk.cells])
      have O3 : Hid (Only B w (w2.setCell ⟨B, 9, none⟩ (.bool true))) := O2.out.trans (Only.set _ _ _ _)
      simp only [Dk.cells] at c9
      simp at c9
      clear hf d2 o2 ok
      go_wp2_with fail
      go_ret
      rw [HP.out]
      exact ⟨rfl, D3.out, O3.out⟩
    | false =>
      have HP : Hid (passD x = (0, { x with gs := (dueD x.gs x.gl).2.1, gl := (dueD x.gs x.gl).2.2, fs := (dueD x.fs x.fl).2.1, fl := (dueD x.fs x.fl).2.2 })) := by show _ = _; simp [passD, h1, h2]
      go_enter Try.func35, Try.ntmps35
      go_wp2_with fail
      (with_reducible refine hg.mono ?_)
      rintro e w1 ⟨rfl, d1, o1⟩
      have O1 := Lib.hid o1
      have hf := HF.out w1 d1
      simp only [h2] at hf
      clear hg d1 o1
      go_wp2_with fail
      (with_reducible refine hf.mono ?_)
      rintro e w2 ⟨rfl, d2, o2⟩
      have O2 := Lib.hid (O1.out.trans o2)
      have D2 := Lib.hid d2
      clear hf d2 o2
      go_wp2_with fail
      go_ret
      rw [HP.out]
      exact ⟨rfl, D2.out, O2.out⟩

theorem power_any {w : World} {B : Nat} {x : Dk} (h : DkAt w B x) : Calls Try.prog 34 #[.pointer (some ⟨B, 0, none⟩)] w fun e w' => e = .returned (.int .i64 (if x.lost then 6 else 0)) ∧ w = w' := by
  have c9 : w.cell? ⟨B, 9, none⟩ = some (.bool x.lost) := by rw [h.cell]; simp [Dk.cells]
  clear h
  cases hl : x.lost with
  | true =>
    rw [hl] at c9
    clear hl
    go_enter Try.func34, Try.ntmps34
    go_wp2_with fail
    go_ret
    exact ⟨rfl, rfl⟩
  | false =>
    rw [hl] at c9
    clear hl
    go_enter Try.func34, Try.ntmps34
    go_wp2_with fail
    go_ret
    exact ⟨rfl, rfl⟩
theorem lost_any {w : World} {B : Nat} {x : Dk} (h : DkAt w B x) : Calls Try.prog 14 #[.pointer (some ⟨B, 0, none⟩)] w fun e w' => e = .returned (.bool x.lost) ∧ w = w' := by
  have c9 : w.cell? ⟨B, 9, none⟩ = some (.bool x.lost) := by rw [h.cell]; simp [Dk.cells]
  clear h
  go_enter Try.func14, Try.ntmps14
  go_wp2_with fail
  go_ret
  exact ⟨rfl, rfl⟩
theorem waits_any {w : World} {B : Nat} {x : Dk} (h : DkAt w B x) : Calls Try.prog 15 #[.pointer (some ⟨B, 0, none⟩)] w fun e w' => e = .returned (.int .i64 (x.wl : Int)) ∧ w = w' := by
  have c4 : w.cell? ⟨B, 4, none⟩ = some (.slice x.wa x.wl x.wc) := by rw [h.cell]; simp [Dk.cells]
  have hl := h.ok.len
  clear h
  go_enter Try.func15, Try.ntmps15
  go_wp2_with fail
  go_ret
  exact ⟨rfl, rfl⟩
theorem room_any {w : World} {B : Nat} {x : Dk} (h : DkAt w B x) : Calls Try.prog 11 #[.pointer (some ⟨B, 0, none⟩)] w fun e w' => e = .returned (.int .i64 (wrap64 (x.cap - x.used))) ∧ Only B w w' ∧ w'.heap = w.heap := by
  have c0 : w.cell? ⟨B, 0, none⟩ = some (.int .i64 x.cap) := by rw [h.cell]; simp [Dk.cells]
  have c1 : w.cell? ⟨B, 1, none⟩ = some (.int .i64 x.used) := by rw [h.cell]; simp [Dk.cells]
  clear h
  go_enter Try.func11, Try.ntmps11
  go_wp2_with fail
  go_quiet (fail)
  go_wp2_with fail
  go_ret
  exact ⟨rfl, (Only.refl B w).drewN _, rfl⟩

/-- The timers are set. -/
theorem fuse_any {w : World} {B : Nat} {x : Dk} (n : Int) (h : DkAt w B x) (hn : n ≤ 9223372036854775807) : Calls Try.prog 23 #[.pointer (some ⟨B, 0, none⟩), .int .i64 n] w fun e w' =>
    e = .returned (.int .i64 (if x.lost then 6 else if n < 0 then 1 else 0)) ∧ DkAt w' B (if x.lost then x else if n < 0 then x else { x with fs := true, fl := n }) ∧ Only B w w' := by
  have H := Lib.hid h
  have hp := power_any h
  cases hl : x.lost with
  | true =>
    rw [hl] at hp
    clear h hl
    simp only [if_true] at hp ⊢
    go_enter Try.func23, Try.ntmps23
    go_wp2_with fail
    (with_reducible refine hp.mono ?_)
    rintro e w1 ⟨rfl, rfl⟩
    go_wp2_with fail
    go_ret
    exact ⟨rfl, H.out, Only.refl _ _⟩
  | false =>
    rw [hl] at hp
    simp only [Bool.false_eq_true, if_false] at hp ⊢
    by_cases h0 : n < 0
    · clear h
      simp only [h0, if_true]
      go_enter Try.func23, Try.ntmps23
      go_wp2_with fail
      (with_reducible refine hp.mono ?_)
      rintro e w1 ⟨rfl, rfl⟩
      go_wp2_with fail
      go_ret
      exact ⟨rfl, H.out, Only.refl _ _⟩
    · simp only [h0, if_false]
      have ok := h.ok
      have c5 : w.cell? ⟨B, 5, none⟩ = some (.bool x.fs) := by rw [h.cell]; simp [Dk.cells]
      have c6 : w.cell? ⟨B, 6, none⟩ = some (.int .i64 x.fl) := by rw [h.cell]; simp [Dk.cells]
      have f5 := h.loose 5
      have f6 := h.loose 6
      have ok1 : Dk.Ok { x with fs := true } := ⟨ok.cap1, ok.cap2, ok.used1, ok.used2, ok.fl1, ok.fl2, ok.gl1, ok.gl2, ok.len⟩
      have ok2 : Dk.Ok { x with fs := true, fl := n } := ⟨ok.cap1, ok.cap2, ok.used1, ok.used2, by show 0 ≤ n; omega, hn, ok.gl1, ok.gl2, ok.len⟩
      have D1 : DkAt (w.setCell ⟨B, 5, none⟩ (.bool true)) B { x with fs := true } := h.set 5 _ ok1 (by simp [Dk.cells])
      have d2 := D1.set (y := { x with fs := true, fl := n }) 6 (.int .i64 n) ok2 (by simp [Dk.cells])
      rw [hl] at d2
      have D2 := Lib.hid d2
      have O2 : Hid (Only B w ((w.setCell ⟨B, 5, none⟩ (.bool true)).setCell ⟨B, 6, none⟩ (.int .i64 n))) := (Only.set _ _ _ _).trans (Only.set _ _ _ _)
      clear h ok D1 ok1 ok2 hl d2
      go_enter Try.func23, Try.ntmps23
      go_wp2_with fail
      (with_reducible refine hp.mono ?_)
      rintro e w1 ⟨rfl, rfl⟩
      go_wp2_with fail
      go_ret
      exact ⟨rfl, D2.out, O2.out⟩
theorem fault_any {w : World} {B : Nat} {x : Dk} (n : Int) (h : DkAt w B x) (hn : n ≤ 9223372036854775807) : Calls Try.prog 24 #[.pointer (some ⟨B, 0, none⟩), .int .i64 n] w fun e w' =>
    e = .returned (.int .i64 (if x.lost then 6 else if n < 0 then 1 else 0)) ∧ DkAt w' B (if x.lost then x else if n < 0 then x else { x with gs := true, gl := n }) ∧ Only B w w' := by
  have H := Lib.hid h
  have hp := power_any h
  cases hl : x.lost with
  | true =>
    rw [hl] at hp
    clear h hl
    simp only [if_true] at hp ⊢
    go_enter Try.func24, Try.ntmps24
    go_wp2_with fail
    (with_reducible refine hp.mono ?_)
    rintro e w1 ⟨rfl, rfl⟩
    go_wp2_with fail
    go_ret
    exact ⟨rfl, H.out, Only.refl _ _⟩
  | false =>
    rw [hl] at hp
    simp only [Bool.false_eq_true, if_false] at hp ⊢
    by_cases h0 : n < 0
    · clear h
      simp only [h0, if_true]
      go_enter Try.func24, Try.ntmps24
      go_wp2_with fail
      (with_reducible refine hp.mono ?_)
      rintro e w1 ⟨rfl, rfl⟩
      go_wp2_with fail
      go_ret
      exact ⟨rfl, H.out, Only.refl _ _⟩
    · simp only [h0, if_false]
      have ok := h.ok
      have c5 : w.cell? ⟨B, 7, none⟩ = some (.bool x.gs) := by rw [h.cell]; simp [Dk.cells]
      have c6 : w.cell? ⟨B, 8, none⟩ = some (.int .i64 x.gl) := by rw [h.cell]; simp [Dk.cells]
      have f5 := h.loose 7
      have f6 := h.loose 8
      have ok1 : Dk.Ok { x with gs := true } := ⟨ok.cap1, ok.cap2, ok.used1, ok.used2, ok.fl1, ok.fl2, ok.gl1, ok.gl2, ok.len⟩
      have ok2 : Dk.Ok { x with gs := true, gl := n } := ⟨ok.cap1, ok.cap2, ok.used1, ok.used2, ok.fl1, ok.fl2, by show 0 ≤ n; omega, hn, ok.len⟩
      have D1 : DkAt (w.setCell ⟨B, 7, none⟩ (.bool true)) B { x with gs := true } := h.set 7 _ ok1 (by simp [Dk.cells])
      have d2 := D1.set (y := { x with gs := true, gl := n }) 8 (.int .i64 n) ok2 (by simp [Dk.cells])
      rw [hl] at d2
      have D2 := Lib.hid d2
      have O2 : Hid (Only B w ((w.setCell ⟨B, 7, none⟩ (.bool true)).setCell ⟨B, 8, none⟩ (.int .i64 n))) := (Only.set _ _ _ _).trans (Only.set _ _ _ _)
      clear h ok D1 ok1 ok2 hl d2
      go_enter Try.func24, Try.ntmps24
      go_wp2_with fail
      (with_reducible refine hp.mono ?_)
      rintro e w1 ⟨rfl, rfl⟩
      go_wp2_with fail
      go_ret
      exact ⟨rfl, D2.out, O2.out⟩
end Go.Proofs.Ytoiggdcgfbjhpaa
