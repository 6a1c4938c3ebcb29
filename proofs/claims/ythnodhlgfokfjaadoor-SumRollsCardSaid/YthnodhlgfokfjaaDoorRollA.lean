/-
  'left', 'NewRoller' and 'Next' of package sum: what they answer, of any size.
-/
import Derived.Test.YthnodhlgfokfjaaDoorCrcB
import Derived.StillTailTactics
import Derived.IntWalk
namespace Go.Proofs.YthnodhlgfokfjaaDoor
open Go.ChangeShapes Go.WideShapes Go.ChangeAt Go.RowKit
set_option linter.unusedVariables false

theorem zeros_succ (n x : Nat) : feedN (zeros n x) 0 = zeros (n + 1) x := rfl

set_option maxHeartbeats 400000 in
theorem left_any (c n : Nat) (hc : c < 256) (hn : n ≤ 256) (w : World) (hF : Fours w) :
    Calls Tryd.prog 20 #[.int .u8 (c : Int), .int .i64 (n : Int)] w fun e w' => e = .returned (.int .u32 ((leftN c n : Nat) : Int)) ∧ w = w' := by
  have HF := Lib.hid hF
  clear hF
  have t0 := feedN_lt 4294967295 c (by omega) hc
  have t1 := turn_lt _ t0
  have hx := turn32 _ t0
  have HD : Hid (leftN c n = zeros n (feedN 4294967295 c ^^^ 4294967295)) := rfl
  have hf := feed_any 4294967295 c (by omega) hc w HF.out
  generalize feedN 4294967295 c ^^^ 4294967295 = d at *
  generalize feedN 4294967295 c = d0 at *
  go_enter Tryd.func20, Tryd.ntmps20
  go_wp2_with (go_at_call 13; refine hf.mono ?_; rintro e w' ⟨rfl, rfl⟩)
  clear hf hx
  go_loop [5, 10] (fun s i => ∃ k t : Nat, k ≤ n ∧ t = zeros k d ∧ t < 4294967296 ∧ i = .int .i64 k ∧ s = .int .u32 t) (fun _ i => n - (intOf i).toNat)
  case atStart => exact ⟨0, d, by omega, rfl, t1, rfl, rfl⟩
  case round =>
    obtain ⟨k, t, hk, ht, htl, rfl, rfl⟩ := hrel
    have HT := Lib.hid ht
    clear ht
    by_cases hlt : k < n
    · have hN := feedN_lt t 0 htl (by omega)
      have hf := feed_any t 0 htl (by omega) w HF.out
      have HZ : Hid (feedN t 0 = zeros (k + 1) d) := by rw [HT.out]; exact rfl
      generalize feedN t 0 = t2 at *
      go_wp2_with (go_at_call 13; refine hf.mono ?_; rintro e w' ⟨rfl, rfl⟩)
      go_round
      case rel => exact ⟨k + 1, t2, by omega, HZ.out, hN, by go_num, rfl⟩
      case measure => simp [intOf]; omega
    · have hkn : k = n := by omega
      subst hkn
      go_wp2
      go_ret
      exact ⟨ret_u32 (by rw [HD.out, HT.out]), rfl⟩

/-- A roller's table, filled up to k, in a world that has nothing else new. -/
structure RollAt (W wr : World) (n k : Nat) : Prop where
  below : Below W.heap.size W wr
  size : W.heap.size < wr.heap.size
  loose : ∀ j, j < 256 → wr.frozen? ⟨W.heap.size, j, none⟩ = false
  has : ∀ j, j < 256 → ∃ v, wr.cell? ⟨W.heap.size, j, none⟩ = some v
  done : ∀ j, j < k → wr.cell? ⟨W.heap.size, j, none⟩ = some (.int .u32 ((leftN j n : Nat) : Int))

theorem RollAt.drew {W wr : World} {n k : Nat} (h : RollAt W wr n k) (q : Nat) : RollAt W (wr.drewN q) n k :=
  ⟨below_drewN h.below q, h.size, h.loose, h.has, h.done⟩

theorem RollAt.set {W wr : World} {n k : Nat} (h : RollAt W wr n k) (hk : k < 256) {v : Value} (hv : v = .int .u32 ((leftN k n : Nat) : Int)) :
    RollAt W (wr.setCell ⟨W.heap.size, k, none⟩ v) n (k + 1) where
  below := h.below.setCell (Nat.le_refl _) _
  size := by rw [World.size_setCell]; exact h.size
  loose := fun j hj => by rw [World.frozen?_setCell]; exact h.loose j hj
  has := fun j hj => by
    obtain ⟨u, hu⟩ := h.has j hj
    exact cell?_setCell_some hu
  done := fun j hj => by
    by_cases e : j = k
    · subst e
      obtain ⟨u, hu⟩ := h.has j hk
      rw [World.cell?_setCell_same _ _ _ hu, hv]
    · rw [World.cell?_setCell_other _ _ _ _ (by intro e2; cases e2; exact e rfl)]
      exact h.done j (by omega)

theorem new_none (n : Int) (h : n < 1 ∨ 256 < n) (w : World) : Calls Tryd.prog 11 #[.int .i64 n] w fun e w' => e = .returned (.pointer none) ∧ w = w' := by
  rcases h with h | h
  · go_enter Tryd.func11, Tryd.ntmps11
    go_wp2
    go_ret
    exact ⟨rfl, rfl⟩
  · have h1 : ¬ n < 1 := by omega
    go_enter Tryd.func11, Tryd.ntmps11
    go_wp2
    go_ret
    exact ⟨rfl, rfl⟩

def noughts : Array Value := Array.replicate 256 (.int .u32 0)
theorem zero47 (w : World) : (zeroValue 47).run Tryd.prog w = .ok (.agg noughts) w := by kernel_rfl
theorem size_noughts : noughts.size = 256 := by kernel_rfl

theorem roll_new (w : World) (n : Nat) : RollAt w (w.alloc (.cells noughts 47)) n 0 where
  below := (Below.refl _ _).alloc (Nat.le_refl _) _
  size := by simp
  loose := fun j _ => World.frozen?_alloc_new w _ _ _
  has := fun j hj => by
    refine ⟨.int .u32 0, ?_⟩
    rw [cell_new]
    simp [noughts, hj]
  done := fun j hj => by omega

/-- 'left' in a world that has drawn. -/
theorem left_still (c n : Nat) (hc : c < 256) (hn : n ≤ 256) (w : World) (hF : Fours w) :
    Calls Tryd.prog 20 #[.int .u8 (c : Int), .int .i64 (n : Int)] w fun e w' => e = .returned (.int .u32 ((leftN c n : Nat) : Int)) ∧ w' = w :=
  (left_any c n hc hn w hF).mono fun e w' ⟨h1, h2⟩ => ⟨h1, h2.symm⟩

theorem RollAt.fours {W wr : World} {n k : Nat} (h : RollAt W wr n k) (hF : Fours W) : Fours wr := hF.below hF.lt h.below

/-- The lowest bit of a number of 8 bits. -/
def lowN (c : Nat) : Nat := (bits .and .i64 (c : Int) (-(c : Int))).toNat

theorem low_all : ∀ c : Fin 256, 1 ≤ c.val → bits .and .i64 (c.val : Int) (-(c.val : Int)) = ((lowN c.val : Nat) : Int) ∧ 1 ≤ lowN c.val ∧ lowN c.val ≤ c.val ∧
    bits .xor .i64 (c.val : Int) ((lowN c.val : Nat) : Int) = ((c.val ^^^ lowN c.val : Nat) : Int) ∧ (lowN c.val ≠ c.val → c.val ^^^ lowN c.val < c.val) := by decide +kernel

theorem low_of (c : Nat) (h1 : 1 ≤ c) (h2 : c < 256) : bits .and .i64 (c : Int) (-(c : Int)) = ((lowN c : Nat) : Int) ∧ 1 ≤ lowN c ∧ lowN c ≤ c ∧
    bits .xor .i64 (c : Int) ((lowN c : Nat) : Int) = ((c ^^^ lowN c : Nat) : Int) ∧ (lowN c ≠ c → c ^^^ lowN c < c) := low_all ⟨c, h2⟩ h1

set_option maxRecDepth 100000 in
set_option maxHeartbeats 1000000 in
theorem new_some (n : Nat) (h1 : 1 ≤ n) (h2 : n ≤ 256) (w : World) (hF : Fours w) :
    Calls Tryd.prog 11 #[.int .i64 (n : Int)] w fun e w' => e = .returned (.pointer (some ⟨w.heap.size, 0, none⟩)) ∧ RollAt w w' n 256 := by
  have HF := Lib.hid hF
  have hlt := hF.lt
  clear hF
  have hn1 : ¬ ((n : Int) < 1) := by omega
  have hn2 : decide ((256 : Int) < (n : Int)) = false := by simp; omega
  have hz := zero47
  go_enter Tryd.func11, Tryd.ntmps11
  go_wp2_with fail
  clear hz
  have hR := roll_new w n
  generalize w.alloc (.cells noughts 47) = w1 at *
  have HR := Lib.hid hR
  have hl0 := hR.loose 0 (by omega)
  obtain ⟨v0, hc0⟩ := hR.has 0 (by omega)
  clear hR
  refine wp_region_still_tail 6 (by kernel_rfl) (by kernel_rfl) ?_
  simp only [List.take_succ_cons, List.take_zero, List.drop_succ_cons, List.drop_zero]
  repeat (first | still_step | (still_call (left_still 0 n (by omega) h2 _ (HR.out.fours HF.out))))
  refine wpStill_nil ?_
  change wpList _ _ _ _ _ w1.drew
  have HR2 : Hid (RollAt w (w1.setCell ⟨w.heap.size, 0, none⟩ (.int .u32 ((leftN 0 n : Nat) : Int))).drew n 1) := (HR.out.drew 1).set (by omega) rfl
  go_wp2
  generalize (w1.setCell ⟨w.heap.size, 0, none⟩ (.int .u32 ((leftN 0 n : Nat) : Int))).drew = w2 at *
  clear HR hl0 hc0 hn2
  go_loopw [4] (fun i wr => ∃ k : Nat, 1 ≤ k ∧ k ≤ 256 ∧ i = .int .i64 k ∧ Hid (RollAt w wr n k)) (fun i _ => 256 - (intOf i).toNat)
  case atStart => exact ⟨1, by omega, by omega, rfl, HR2⟩
  case round =>
    obtain ⟨k, hk1, hk2, rfl, HK⟩ := hrel
    by_cases hlt : k < 256
    · have hR := HK.out
      obtain ⟨e1, l1, l2, e2, l3⟩ := low_of k hk1 hlt
      have hlk := hR.loose k hlt
      obtain ⟨vk, hck⟩ := hR.has k hlt
      have q0 := hR.done 0 (by omega)
      have HL3 := Lib.hid l3
      clear l3
      by_cases hlow : lowN k = k
      · rw [hlow] at e1
        clear e2 HL3 hlow l1 l2
        clear hR
        go_wp2
        refine wp_region_still_tail 9 (by kernel_rfl) (by kernel_rfl) ?_
        simp only [List.take_succ_cons, List.take_zero, List.drop_succ_cons, List.drop_zero]
        have hw8 : IntKind.u8.wrap (k : Int) = (k : Int) := by rw [IntKind.wrap_u8']; omega
        repeat still_step
        still_call (left_still k n hlt h2 _ (HK.out.fours HF.out))
        repeat still_step
        clear hw8
        refine wpStill_nil ?_
        change wpList _ _ _ _ _ wr.drew
        have HK2 : Hid (RollAt w (wr.setCell ⟨w.heap.size, k, none⟩ (.int .u32 ((leftN k n : Nat) : Int))).drew n (k + 1)) := (HK.out.drew 1).set hlt rfl
        clear e1
        go_wp2
        go_roundw
        case rel => exact ⟨k + 1, by omega, by omega, by go_num, HK2⟩
        case measure => simp [intOf]; omega
      · have q1 := hR.done (lowN k) (by omega)
        have q2 := hR.done (k ^^^ lowN k) (HL3.out hlow)
        have hx2 : k ^^^ lowN k < 256 := by have := HL3.out hlow; omega
        have hne : ((k : Int) == ((lowN k : Nat) : Int)) = false := by simp; omega
        have b0 := leftN_lt 0 n (by omega)
        have b1 := leftN_lt (lowN k) n (by omega)
        have b2 := leftN_lt (k ^^^ lowN k) n hx2
        have x1 := xor32 _ _ b2 b1
        have x2 := xor32 _ _ (xor_lt32 b2 b1) b0
        rw [leftN_sum, xor_back'] at x2
        have HX := Lib.hid hlow
        clear hR hlow HL3
        generalize k ^^^ lowN k = m at *
        generalize lowN k = l at *
        have i1 : (m : Int) < 256 := by omega
        have i2 : (l : Int) < 256 := by omega
        go_wp2
        refine wp_region_still_tail 26 (by kernel_rfl) (by kernel_rfl) ?_
        simp only [List.take_succ_cons, List.take_zero, List.drop_succ_cons, List.drop_zero]
        repeat still_step
        refine wpStill_nil ?_
        change wpList _ _ _ _ _ wr.drew
        have HK2 : Hid (RollAt w (wr.setCell ⟨w.heap.size, k, none⟩ (.int .u32 ((leftN k n : Nat) : Int))).drew n (k + 1)) := (HK.out.drew 1).set hlt rfl
        clear e1 e2 x1 x2 hne
        go_wp2
        go_roundw
        case rel => exact ⟨k + 1, by omega, by omega, by go_num, HK2⟩
        case measure => simp [intOf]; omega
    · have hk3 : k = 256 := by omega
      subst hk3
      go_wp2
      go_ret
      exact ⟨rfl, HK.out⟩

theorem next_nil (c o i : Int) (w : World) : Calls Tryd.prog 12 #[.pointer none, .int .u32 c, .int .u8 o, .int .u8 i] w fun e w' => e = .returned (.int .u32 0) ∧ w = w' := by
  go_enter Tryd.func12, Tryd.ntmps12
  go_wp2
  go_ret
  exact ⟨rfl, rfl⟩

set_option maxHeartbeats 1000000 in
theorem next_some (B c o i g : Nat) (hc : c < 4294967296) (ho : o < 256) (hi : i < 256) (hg : g < 4294967296) (w : World) (hF : Fours w) (hcell : w.cell? ⟨B, o, none⟩ = some (.int .u32 (g : Int))) :
    Calls Tryd.prog 12 #[.pointer (some ⟨B, 0, none⟩), .int .u32 (c : Int), .int .u8 (o : Int), .int .u8 (i : Int)] w fun e w' => e = .returned (.int .u32 ((feedN (c ^^^ 4294967295) i ^^^ 4294967295 ^^^ g : Nat) : Int)) ∧ ∃ q, w' = w.drewN q := by
  have HF := Lib.hid hF
  clear hF
  have e1 := turn32 c hc
  have t1 := turn_lt c hc
  generalize c ^^^ 4294967295 = x at *
  have t2 := feedN_lt x i t1 hi
  have hf : ∀ q, Calls Tryd.prog 13 #[.int .u32 (x : Int), .int .u8 (i : Int)] (w.drewN q) fun e w' => e = .returned (.int .u32 ((feedN x i : Nat) : Int)) ∧ w' = w.drewN q := fun q => (feed_any x i t1 hi (w.drewN q) HF.out).mono fun _ _ ⟨a, b⟩ => ⟨a, b.symm⟩
  generalize feedN x i = y at *
  have e2 := turn32 y t2
  have t3 := turn_lt y t2
  generalize y ^^^ 4294967295 = z at *
  have e3 := xor32 z g t3 hg
  have io : (o : Int) < 256 := by omega
  generalize z ^^^ g = u at *
  have Hf := Lib.hid hf
  clear hf
  go_enter Tryd.func12, Tryd.ntmps12
  go_wp2
  go_quiet ((go_at_call 13; exact Calls.quiet_of_same (Hf.out _)))
  go_wp2
  go_ret
  exact ⟨rfl, _, rfl⟩

end Go.Proofs.YthnodhlgfokfjaaDoor
