/-
  The library's insertion sort and rotation at package dense's lines, by the lengths of their rows.
-/
import Derived.Test.YtiglmoggpjgmbaaSwapR
import Derived.Sort.WalkA
namespace Go.Proofs.Ytiglmoggpjgmbaa
open Go.ChangeShapes Go.WideShapes Go.ChangeAt Go.RowKit Go.Joins
set_option linter.unusedVariables false

/-- A line whose row is shorter. -/
def ltR (x y : LV) : Bool := decide (x.rl < y.rl)
theorem swo_ltR : Sort.SWO ltR :=
  ⟨fun x => by simp [ltR], fun x y z h1 h2 => by simp [ltR] at h1 h2 ⊢; omega, fun x y z h1 h2 => by simp [ltR] at h1 h2 ⊢; omega⟩
theorem cmp_ltR (x y : LV) : (cmpI (x.rl : Int) (y.rl : Int) < 0 ∧ ltR x y = true) ∨ (¬ cmpI (x.rl : Int) (y.rl : Int) < 0 ∧ ltR x y = false) := by
  unfold cmpI ltR
  by_cases h : x.rl < y.rl
  · left
    rw [if_pos (by omega)]
    exact ⟨by omega, decide_eq_true h⟩
  · right
    rw [if_neg (by omega)]
    exact ⟨by split <;> omega, decide_eq_false h⟩

set_option maxHeartbeats 1000000 in
theorem byLen_any (x y : LV) (W : World) : Calls Try.prog 35 #[.agg #[.slice (some ⟨x.rb, 0, none⟩) x.rl x.rl, .slice (some ⟨x.gb, 0, none⟩) x.gl x.gl, .int .i64 x.ld], .agg #[.slice (some ⟨y.rb, 0, none⟩) y.rl y.rl, .slice (some ⟨y.gb, 0, none⟩) y.gl y.gl, .int .i64 y.ld]] W fun e w' => e = .returned (.int .i64 (cmpI (x.rl : Int) (y.rl : Int))) ∧ ∃ q os', w' = Sort.grow (W.drewN q) os' := by
  obtain ⟨xrb, xrl, xgb, xgl, xld⟩ := x
  obtain ⟨yrb, yrl, ygb, ygl, yld⟩ := y
  go_enter Try.func35, Try.ntmps35
  go_wp2_with (go_at_call 31; refine (compare_any _ _ _).mono ?_; rintro e w' ⟨rfl, rfl⟩)
  go_ret
  exact ⟨rfl, 0, _, by rw [Sort.alloc_eq_grow, Sort.alloc_eq_grow, Sort.grow_grow]; rfl⟩
/-- .. as a test in the sort meets it: c, whose sign is known. -/
theorem byLen_yes {x y : LV} (h : ltR x y = true) : ∃ c : Int, c < 0 ∧ ∀ W, Calls Try.prog 35 #[.agg #[.slice (some ⟨x.rb, 0, none⟩) x.rl x.rl, .slice (some ⟨x.gb, 0, none⟩) x.gl x.gl, .int .i64 x.ld], .agg #[.slice (some ⟨y.rb, 0, none⟩) y.rl y.rl, .slice (some ⟨y.gb, 0, none⟩) y.gl y.gl, .int .i64 y.ld]] W fun e w' => e = .returned (.int .i64 c) ∧ ∃ q os', w' = Sort.grow (W.drewN q) os' := by
  refine ⟨_, ?_, fun W => byLen_any x y W⟩
  rcases cmp_ltR x y with ⟨h1, h2⟩ | ⟨h1, h2⟩
  · exact h1
  · rw [h] at h2; cases h2
theorem byLen_no {x y : LV} (h : ltR x y = false) : ∃ c : Int, ¬ c < 0 ∧ ∀ W, Calls Try.prog 35 #[.agg #[.slice (some ⟨x.rb, 0, none⟩) x.rl x.rl, .slice (some ⟨x.gb, 0, none⟩) x.gl x.gl, .int .i64 x.ld], .agg #[.slice (some ⟨y.rb, 0, none⟩) y.rl y.rl, .slice (some ⟨y.gb, 0, none⟩) y.gl y.gl, .int .i64 y.ld]] W fun e w' => e = .returned (.int .i64 c) ∧ ∃ q os', w' = Sort.grow (W.drewN q) os' := by
  refine ⟨_, ?_, fun W => byLen_any x y W⟩
  rcases cmp_ltR x y with ⟨h1, h2⟩ | ⟨h1, h2⟩
  · rw [h] at h2; cases h2
  · exact h1
/-- The cells of one line in every world of a test. -/
def CellsG (w : World) (B i : Nat) (x : LV) : Prop := ∀ n os, (Sort.grow (w.drewN n) os).cell? ⟨B, i * 3, none⟩ = some (.slice (some ⟨x.rb, 0, none⟩) x.rl x.rl) ∧ (Sort.grow (w.drewN n) os).cell? ⟨B, i * 3 + 1, none⟩ = some (.slice (some ⟨x.gb, 0, none⟩) x.gl x.gl) ∧ (Sort.grow (w.drewN n) os).cell? ⟨B, i * 3 + 2, none⟩ = some (.int .i64 x.ld)
theorem sl_grown {w0 W : World} {B : Nat} {d0 dk : Array LV} (S : SL w0 B dk W) (R : RL w0 B d0) (hs : dk.size = d0.size) {i : Nat} (hi : i < dk.size) :
    (∀ n os, (Sort.grow (W.drewN n) os).cell? ⟨B, i * 3, none⟩ = some (.slice (some ⟨dk[i]!.rb, 0, none⟩) dk[i]!.rl dk[i]!.rl)) ∧ (∀ n os, (Sort.grow (W.drewN n) os).cell? ⟨B, i * 3 + 1, none⟩ = some (.slice (some ⟨dk[i]!.gb, 0, none⟩) dk[i]!.gl dk[i]!.gl)) ∧ (∀ n os, (Sort.grow (W.drewN n) os).cell? ⟨B, i * 3 + 2, none⟩ = some (.int .i64 dk[i]!.ld)) :=
  ⟨fun n os => (sl_cells (SWK.grown S n os) R hs hi).1, fun n os => (sl_cells (SWK.grown S n os) R hs hi).2.1, fun n os => (sl_cells (SWK.grown S n os) R hs hi).2.2.1⟩

set_option maxHeartbeats 4000000 in
set_option maxRecDepth 1000000 in
theorem insertion_any (B cap a b : Nat) (d0 d : Array LV) (w0 w : World) (R : RL w0 B d0) (hs : d0.size = d.size) (S : SL w0 B d w) (hab : a ≤ b) (hb : b ≤ d.size) (hsz : d.size ≤ 1000000) :
    Calls Try.prog 47 #[.slice (some ⟨B, 0, none⟩) d.size cap, .int .i64 a, .int .i64 b, .func (.func 35) #[] #[]] w fun e w' => e = .returned (.tuple #[]) ∧ ∃ d', SL w0 B d' w' ∧ Sort.PermIn a b d d' ∧ Sort.SortedIn ltR a b d' := by
  have mixed : Try.prog.follows .mixedOrders = true := by kernel_rfl
  have S0 : Aside (SL w0 B d w) := S
  clear S
  go_enter Try.func47, Try.ntmps47
  go_wp2_with fail
  go_loopg [8] (b - a) (fun g1 vi wr => ∃ (i : Nat) (dk : Array LV), vi = .int .i64 i ∧ a < i ∧ i ≤ b + 1 ∧ b + 1 - i ≤ g1 + 1 ∧ dk.size = d.size ∧ Aside (SL w0 B dk wr) ∧ Hid (Sort.insOuter ltR a b i dk = Sort.insOuter ltR a b (a + 1) d))
  case atStart => exact ⟨a + 1, d, by go_num, by omega, by omega, by omega, rfl, S0, rfl⟩
  case round =>
    clear S0
    obtain ⟨i, dk, rfl, hai, hib, hg1, hsk, S1, HO⟩ := hrel
    by_cases hlt : i < b
    · have hltz : (i : Int) < (b : Int) := by omega
      go_wp2_with fail
      go_loopg [9] i (fun g2 vj wr => ∃ (j : Nat) (dj : Array LV), vj = .int .i64 j ∧ a ≤ j ∧ j ≤ i ∧ j ≤ g2 ∧ dj.size = d.size ∧ Aside (SL w0 B dj wr) ∧ Hid (Sort.insInner ltR a j dj = Sort.insInner ltR a i dk))
      case atStart => exact ⟨i, dk, rfl, by omega, Nat.le_refl _, Nat.le_refl _, hsk, S1, rfl⟩
      case round =>
        clear S1
        obtain ⟨j, dj, rfl, haj, hji, hg2, hsj, S2, HI⟩ := hrel
        have OUT : Aside ((j ≤ a ∨ ltR dj[j]! dj[j - 1]! = false) → Hid (Sort.insOuter ltR a b (i + 1) dj = Sort.insOuter ltR a b (a + 1) d)) := fun hs => by
          show _ = _
          rw [← HO.out, insOuter_go _ _ _ _ _ hlt, ← HI.out, insInner_stop _ _ _ _ hs]
        by_cases hja : a < j
        · have hjaz : (a : Int) < (j : Int) := by omega
          obtain ⟨jp, rfl⟩ : ∃ jp, j = jp + 1 := ⟨j - 1, by omega⟩
          have hwp : IntKind.i64.wrap (jp : Int) = (jp : Int) := by rw [IntKind.wrap_i64]; omega
          have jz : (jp : Int) + 1 < (d.size : Int) := by omega
          have jz1 : (jp : Int) < (d.size : Int) := by omega
          have hjaz' : (a : Int) < (jp : Int) + 1 := by omega
          have p0 : (0 : Int) ≤ (jp : Int) + 1 := by omega
          have e0 : ((jp : Int) + 1).toNat = jp + 1 := by omega
          obtain ⟨c0, c1, c2⟩ := sl_grown S2.out R (by omega) (i := jp + 1) (by omega)
          obtain ⟨b0, b1, b2⟩ := sl_grown S2.out R (by omega) (i := jp) (by omega)
          have HC1 : Hid (∀ w : World, SL w0 B dj w → (w.cell? ⟨B, (jp + 1) * 3, none⟩ = some (.slice (some ⟨dj[jp + 1]!.rb, 0, none⟩) dj[jp + 1]!.rl dj[jp + 1]!.rl) ∧ w.cell? ⟨B, (jp + 1) * 3 + 1, none⟩ = some (.slice (some ⟨dj[jp + 1]!.gb, 0, none⟩) dj[jp + 1]!.gl dj[jp + 1]!.gl) ∧ w.cell? ⟨B, (jp + 1) * 3 + 2, none⟩ = some (.int .i64 dj[jp + 1]!.ld) ∧
              w.frozen? ⟨B, (jp + 1) * 3, none⟩ = false ∧ w.frozen? ⟨B, (jp + 1) * 3 + 1, none⟩ = false ∧ w.frozen? ⟨B, (jp + 1) * 3 + 2, none⟩ = false)) := fun w hw => sl_cells hw R (by omega) (by omega)
          have HC2 : Hid (∀ w : World, SL w0 B dj w → (w.cell? ⟨B, jp * 3, none⟩ = some (.slice (some ⟨dj[jp]!.rb, 0, none⟩) dj[jp]!.rl dj[jp]!.rl) ∧ w.cell? ⟨B, jp * 3 + 1, none⟩ = some (.slice (some ⟨dj[jp]!.gb, 0, none⟩) dj[jp]!.gl dj[jp]!.gl) ∧ w.cell? ⟨B, jp * 3 + 2, none⟩ = some (.int .i64 dj[jp]!.ld) ∧
              w.frozen? ⟨B, jp * 3, none⟩ = false ∧ w.frozen? ⟨B, jp * 3 + 1, none⟩ = false ∧ w.frozen? ⟨B, jp * 3 + 2, none⟩ = false)) := fun w hw => sl_cells hw R (by omega) (by omega)
          have HSW : Hid (∀ w : World, SL w0 B dj w → SL w0 B (Sort.swp dj (jp + 1) jp) _) := fun w hw => SWK.drew (sl_swapped hw R (i := jp + 1) (j := jp) (by omega) (by omega))
          cases hlv : ltR dj[jp + 1]! dj[jp]! with
          | true =>
            have HI2 : Hid (Sort.insInner ltR a jp (Sort.swp dj (jp + 1) jp) = Sort.insInner ltR a i dk) := by
              show _ = _
              have := insInner_go ltR a (jp + 1) dj hja (by simp only [Nat.add_sub_cancel]; exact hlv)
              simp only [Nat.add_sub_cancel] at this
              rw [← HI.out, this]
            obtain ⟨c, hc, hcall⟩ := byLen_yes hlv
            clear OUT hlv HI
            generalize dj[jp + 1]! = x at *
            generalize dj[jp]! = y at *
            go_wp2_with fail
            go_quiet_grown (first | (go_at_call 35; refine Calls.grown_of (hcall _)))
            have S3 : Aside (SL w0 B dj (Sort.grow (wr.drewN nq) osq)) := S2.out.grown nq osq
            clear c0 c1 c2 b0 b1 b2 hcall S2
            generalize Sort.grow (wr.drewN nq) osq = w2 at S3 ⊢
            obtain ⟨c0, c1, c2, f0, f1, f2⟩ := HC1.out _ S3.out
            obtain ⟨b0, b1, b2, g0, g1, g2⟩ := HC2.out _ S3.out
            have S4 : Aside _ := HSW.out _ S3.out
            clear HC1 HC2 HSW S3
            go_wp2_with fail
            go_big_region_o
            go_wp2_with fail
            go_roundg jp
            case measure => omega
            case rel => exact ⟨jp, Sort.swp dj (jp + 1) jp, by first | rfl | go_num | (congr 1; omega), by omega, by omega, Nat.le_refl _, by rw [Sort.size_swp]; exact hsj, S4, HI2⟩
          | false =>
            have OUT2 := OUT.out (.inr (by simp only [Nat.add_sub_cancel]; exact hlv))
            obtain ⟨c, hc, hcall⟩ := byLen_no hlv
            clear OUT hlv HI HC1 HC2 HSW
            generalize dj[jp + 1]! = x at *
            generalize dj[jp]! = y at *
            go_wp2_with fail
            go_quiet_grown (first | (go_at_call 35; refine Calls.grown_of (hcall _)))
            have S3 : Aside (SL w0 B dj (Sort.grow (wr.drewN nq) osq)) := S2.out.grown nq osq
            clear c0 c1 c2 b0 b1 b2 hcall S2
            generalize Sort.grow (wr.drewN nq) osq = w2 at S3 ⊢
            go_wp2_with fail
            go_roundg (b - (i + 1))
            case measure => omega
            case rel => exact ⟨i + 1, dj, by go_num, by omega, by omega, by omega, hsj, S3, OUT2⟩
        · have hjaz : decide ((j : Int) > (a : Int)) = false := decide_eq_false (by omega)
          have hjaz' : ¬ (a : Int) < (j : Int) := by omega
          have OUT2 := OUT.out (.inl (by omega))
          have S3 : Aside (SL w0 B dj wr.drew) := SWK.drew S2.out
          clear OUT HI S2
          go_wp2_with fail
          go_big_region_o
          go_wp2_with fail
          go_roundg (b - (i + 1))
          case measure => omega
          case rel => exact ⟨i + 1, dj, by go_num, by omega, by omega, by omega, hsj, S3, OUT2⟩
    · have hltz : ¬ (i : Int) < (b : Int) := by omega
      go_wp2_with fail
      go_end0
      have := Sort.insertionSort_holds (lt := ltR) swo_ltR d a b hab hb
      unfold Sort.insertionSort at this
      rw [← HO.out, insOuter_stop _ _ _ _ _ hlt] at this
      exact ⟨rfl, dk, S1.out, this⟩
end Go.Proofs.Ytiglmoggpjgmbaa
