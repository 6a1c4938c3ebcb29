/-
  The library's swapRange at package dense's lines.
-/
import Derived.Test.YtiglmoggpjgmbaaSortMath
import Derived.Test.YtiglmoggpjgmbaaInsertG
import Derived.Shelf.SlSortCmp.KitK
import Derived.Sort.WalkB2
import Derived.Sort.WalkB12
import Derived.Deep.LoopGhost
namespace Go.Proofs.Ytiglmoggpjgmbaa
open Go.ChangeShapes Go.WideShapes Go.ChangeAt Go.RowKit Go.Joins
set_option linter.unusedVariables false

/-- The block of lines, somewhere in the sort. -/
abbrev SL (w0 : World) (B : Nat) (d : Array LV) (w : World) : Prop := SWK LV.enc 3 w0 B 0 d w
abbrev RL (w0 : World) (B : Nat) (d : Array LV) : Prop := RowK LV.enc 3 w0 B 0 d
theorem sl_cells {w0 W : World} {B : Nat} {d0 dk : Array LV} (S : SL w0 B dk W) (R : RL w0 B d0) (hs : dk.size = d0.size) {i : Nat} (hi : i < dk.size) :
    W.cell? ⟨B, i * 3, none⟩ = some (.slice (some ⟨dk[i]!.rb, 0, none⟩) dk[i]!.rl dk[i]!.rl) ∧ W.cell? ⟨B, i * 3 + 1, none⟩ = some (.slice (some ⟨dk[i]!.gb, 0, none⟩) dk[i]!.gl dk[i]!.gl) ∧ W.cell? ⟨B, i * 3 + 2, none⟩ = some (.int .i64 dk[i]!.ld) ∧
    W.frozen? ⟨B, i * 3, none⟩ = false ∧ W.frozen? ⟨B, i * 3 + 1, none⟩ = false ∧ W.frozen? ⟨B, i * 3 + 2, none⟩ = false := by
  have H := SWK.holds S R.hblk R.hH hs
  have c0 := Sort.HoldsK.cell H hi (c := 0) (by omega)
  have c1 := Sort.HoldsK.cell H hi (c := 1) (by omega)
  have c2 := Sort.HoldsK.cell H hi (c := 2) (by omega)
  simp only [Nat.zero_add, Nat.add_zero] at c0 c1 c2
  exact ⟨c0.1, c1.1, c2.1, c0.2, c1.2, c2.2⟩
theorem sl_swapped {w0 W : World} {B : Nat} {d0 dk : Array LV} (S : SL w0 B dk W) (R : RL w0 B d0) {i j : Nat} (hi : i < dk.size) (hj : j < dk.size) :
    SL w0 B (Sort.swp dk i j) ((((((W.setCell ⟨B, i * 3, none⟩ (.slice (some ⟨dk[j]!.rb, 0, none⟩) dk[j]!.rl dk[j]!.rl)).setCell ⟨B, i * 3 + 1, none⟩ (.slice (some ⟨dk[j]!.gb, 0, none⟩) dk[j]!.gl dk[j]!.gl)).setCell ⟨B, i * 3 + 2, none⟩ (.int .i64 dk[j]!.ld)).setCell
      ⟨B, j * 3, none⟩ (.slice (some ⟨dk[i]!.rb, 0, none⟩) dk[i]!.rl dk[i]!.rl)).setCell ⟨B, j * 3 + 1, none⟩ (.slice (some ⟨dk[i]!.gb, 0, none⟩) dk[i]!.gl dk[i]!.gl)).setCell ⟨B, j * 3 + 2, none⟩ (.int .i64 dk[i]!.ld)) := by
  have := SWK.swap S R.hk R.hblk i j hi hj
  simpa only [Nat.zero_add, World.setCells, LV.enc] using this

set_option maxHeartbeats 4000000 in
set_option maxRecDepth 1000000 in
theorem swapRange_any (B cap a b n : Nat) (d0 d : Array LV) (cv : Value) (w0 w : World) (R : RL w0 B d0) (hs : d0.size = d.size) (S : SL w0 B d w) (hab : a + n ≤ b) (hb : b + n ≤ d.size) (hsz : d.size ≤ 1000000) :
    Calls Try.prog 53 #[.slice (some ⟨B, 0, none⟩) d.size cap, .int .i64 a, .int .i64 b, .int .i64 n, cv] w fun e w' => e = .returned (.tuple #[]) ∧ ∃ d', SL w0 B d' w' ∧ Swr a b n d d' := by
  have mixed : Try.prog.follows .mixedOrders = true := by kernel_rfl
  have S0 : Aside (SL w0 B d w) := S
  clear S
  go_enter Try.func53, Try.ntmps53
  go_wp2_with fail
  go_loopg [10] n (fun kx s10 wr => ∃ (k : Nat) (dk : Array LV), s10 = .int .i64 k ∧ k ≤ n ∧ n - k ≤ kx ∧ Aside (SL w0 B dk wr) ∧ Aside (Swr a b k d dk))
  case atStart => exact ⟨0, d, rfl, by omega, by omega, S0, Swr.start _ _ _⟩
  case round =>
    clear S0
    obtain ⟨k, dk, rfl, hk, hkx, S1, W1⟩ := hrel
    by_cases hlt : k < n
    · have hds : dk.size = d.size := W1.out.size
      have ea : ((a : Int) + (k : Int)).toNat = a + k := by omega
      have pa : (0 : Int) ≤ (a : Int) + (k : Int) := by omega
      have ba : (a : Int) + (k : Int) < (d.size : Int) := by omega
      have ra : IntKind.i64.wrap ((a : Int) + (k : Int)) = (a : Int) + (k : Int) := by rw [IntKind.wrap_i64]; omega
      have ec : ((b : Int) + (k : Int)).toNat = b + k := by omega
      have pc : (0 : Int) ≤ (b : Int) + (k : Int) := by omega
      have bc : (b : Int) + (k : Int) < (d.size : Int) := by omega
      have rc : IntKind.i64.wrap ((b : Int) + (k : Int)) = (b : Int) + (k : Int) := by rw [IntKind.wrap_i64]; omega
      have S2 : Aside _ := SWK.drew (sl_swapped S1.out R (i := a + k) (j := b + k) (by omega) (by omega))
      have W2 : Aside (Swr a b (k + 1) d (Sort.swp dk (a + k) (b + k))) := W1.out.step (by omega) (by omega)
      obtain ⟨c0, c1, c2, f0, f1, f2⟩ := sl_cells S1.out R (by omega) (i := a + k) (by omega)
      obtain ⟨e0, e1, e2, g0, g1, g2⟩ := sl_cells S1.out R (by omega) (i := b + k) (by omega)
      generalize dk[a + k]! = x at *
      generalize dk[b + k]! = y at *
      clear S1 W1
      go_wp2_with fail
      go_big_region_o
      go_wp2_with fail
      go_roundg (n - (k + 1))
      case measure => omega
      case rel => exact ⟨k + 1, _, by first | rfl | go_num | (congr 1; omega), hlt, Nat.le_refl _, S2, W2⟩
    · obtain rfl : k = n := by omega
      go_wp2_with fail
      go_end0
      exact ⟨rfl, dk, S1.out, W1.out⟩
end Go.Proofs.Ytiglmoggpjgmbaa
