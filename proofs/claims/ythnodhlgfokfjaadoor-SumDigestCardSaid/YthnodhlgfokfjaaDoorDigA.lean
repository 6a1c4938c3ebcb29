/-
  Rotations, and the words of a block, as package sum has them.
-/
import Derived.Test.YthnodhlgfokfjaaDoorDigMath
import Derived.Test.YthnodhlgfokfjaaDoorFill
import Derived.StillTailTactics
import Derived.IntWalk
namespace Go.Proofs.YthnodhlgfokfjaaDoor
open Go.ChangeShapes Go.WideShapes Go.ChangeAt Go.RowKit
set_option linter.unusedVariables false

theorem rot_any (x n : Nat) (hx : x < 4294967296) (h1 : 1 ≤ n) (h2 : n ≤ 31) (w : World) :
    Calls Tryd.prog 22 #[.int .u32 (x : Int), .int .i64 (-(n : Int))] w fun e w' => e = .returned (.int .u32 ((rotr x n : Nat) : Int)) ∧ w = w' := by
  have e1 : bits .and .u64 (IntKind.u64.wrap (-(n : Int))) 31 = ((32 - n : Nat) : Int) := by
    rw [IntKind.wrap_u64]
    have e : (-(n : Int)) % 18446744073709551616 = ((18446744073709551616 - n : Nat) : Int) := by omega
    rw [e]
    have := u64_and_nat (18446744073709551616 - n) 31 (by omega) (by omega)
    rw [nat_mask5] at this
    rw [show (18446744073709551616 - n) % 32 = 32 - n by omega] at this
    exact this
  have e2 : bits .or .u32 ((x : Int) * 2 ^ (32 - n) % 4294967296) ((x : Int) / 2 ^ (32 - (32 - n))) = ((rotr x n : Nat) : Int) := by
    rw [show 32 - (32 - n) = n by omega]
    have := u32_or_nat (x * 2 ^ (32 - n) % 4294967296) (x / 2 ^ n) (Nat.mod_lt _ (by omega)) (Nat.lt_of_le_of_lt (Nat.div_le_self _ _) hx)
    rw [rotr_left x n hx (by omega)] at this
    rw [← this]
    simp
  have E2 := Lib.hid e2
  clear e2
  go_enter Tryd.func22, Tryd.ntmps22
  go_wp2
  go_ret
  exact ⟨congrArg (fun z => Ending.returned (.int .u32 z)) E2.out, rfl⟩

theorem rot_at (x n : Nat) (m : Int) (hm : m = -(n : Int)) (hx : x < 4294967296) (h1 : 1 ≤ n) (h2 : n ≤ 31) (w : World) :
    Calls Tryd.prog 22 #[.int .u32 (x : Int), .int .i64 m] w fun e w' => e = .returned (.int .u32 ((rotr x n : Nat) : Int)) ∧ w = w' := by
  subst hm; exact rot_any x n hx h1 h2 w

theorem xor_shr (a b s k : Nat) (hs : s = 2 ^ k) (ha : a < 4294967296) (hb : b < 4294967296) : bits .xor .u32 (a : Int) ((b : Int) / (s : Int)) = ((a ^^^ b / s : Nat) : Int) :=
  xor32 a (b / s) ha (Nat.lt_of_le_of_lt (Nat.div_le_self _ _) hb)

def wordV (f : Nat → Nat) (i : Nat) : Value := .int .u32 ((wd f i : Nat) : Int)
theorem oneCell_word (f : Nat → Nat) (n : Nat) : (rowArr n (wordV f)).all (·.oneCell') = true := by simp [rowArr, wordV, Value.oneCell']

/-- The cells of a block of 64 bytes. -/
def BlockIn (w : World) (b off : Nat) (f : Nat → Nat) : Prop := ∀ i, i < 64 → w.cell? ⟨b, off + i, none⟩ = some (.int .u8 ((f i : Nat) : Int))


theorem wrap32 {a : Nat} (h : a < 4294967296) : IntKind.u32.wrap (a : Int) = (a : Int) := by rw [IntKind.wrap_u32']; omega
theorem wrap8_32 {a : Nat} (h : a < 256) : IntKind.u32.wrap (a : Int) = (a : Int) := wrap32 (by omega)
theorem or32 (i a b : Nat) (hi : i ≤ 32) (ha : a < 4294967296) (hm : a % 2 ^ i = 0) (hb : b < 2 ^ i) : bits .or .u32 (a : Int) (b : Int) = ((a + b : Nat) : Int) := by
  have h32 : b < 4294967296 := Nat.lt_of_lt_of_le hb (by have := Nat.pow_le_pow_right (show 0 < 2 by omega) hi; simpa using this)
  rw [u32_or_nat a b ha h32, nat_join i a b hm hb]

/-- Two rows of 64 words: the end's, and the one that is filled. -/
structure Spr (W wr : World) (f : Nat → Nat) (k : Nat) : Prop where
  below : Below W.heap.size W wr
  out : Row wr W.heap.size 50 64 0 (wordV f)
  row : Row wr (W.heap.size + 1) 50 64 k (wordV f)

theorem Spr.drew {W wr : World} {f : Nat → Nat} {k : Nat} (h : Spr W wr f k) (q : Nat) : Spr W (wr.drewN q) f k := ⟨below_drewN h.below q, h.out, h.row⟩
theorem Spr.set {W wr : World} {f : Nat → Nat} {k : Nat} (h : Spr W wr f k) (hk : k < 64) {v : Value} (hv : v = wordV f k) : Spr W (wr.setCell ⟨W.heap.size + 1, k, none⟩ v) f (k + 1) :=
  ⟨h.below.setCell (by simp) _, h.out.other (by omega), h.row.set hk hv⟩

theorem BlockIn.below {w w' : World} {B b off : Nat} {f : Nat → Nat} (h : BlockIn w b off f) (hB : w.heap.size ≤ B) (hb : Below B w w') : BlockIn w' b off f := fun i hi => by
  rw [hb.cell (p := ⟨b, off + i, none⟩) (Nat.lt_of_lt_of_le (World.block_lt_of_cell? w _ (h i hi)) hB)]; exact h i hi

set_option maxRecDepth 100000 in
set_option maxHeartbeats 1000000 in
theorem spread_any (b off cap : Nat) (f : Nat → Nat) (w : World) (hb : BytesF f) (hc : BlockIn w b off f) :
    Calls Tryd.prog 21 #[.slice (some ⟨b, off, none⟩) 64 cap] w fun e w' => e = .returned (.agg (rowArr 64 (wordV f))) ∧ Below w.heap.size w w' := by
  have HB := Lib.hid hb
  have HC := Lib.hid hc
  clear hb hc
  go_enter Tryd.func21, Tryd.ntmps21
  go_wp2_with fail
  go_loopw [10] (fun i wr => ∃ k : Nat, k ≤ 16 ∧ i = .int .i64 k ∧ Hid (Spr w wr f k)) (fun i _ => 16 - (intOf i).toNat)
  case atStart => exact ⟨0, by omega, rfl, ⟨((Below.refl _ _).alloc (Nat.le_refl _) _).alloc (by simp) _, (Row.new' _ _ _ _ _ _ rfl rfl).alloc _, Row.new' _ _ _ _ _ _ (by simp) rfl⟩⟩
  case round =>
    obtain ⟨k, hk, rfl, HK⟩ := hrel
    by_cases hlt : k < 16
    · have hcr := HC.out.below (Nat.le_refl _) HK.out.below
      have c0 := hcr (4 * k) (by omega)
      have c1 := hcr (4 * k + 1) (by omega)
      have c2 := hcr (4 * k + 2) (by omega)
      have c3 := hcr (4 * k + 3) (by omega)
      have f0 := HB.out (4 * k)
      have f1 := HB.out (4 * k + 1)
      have f2 := HB.out (4 * k + 2)
      have f3 := HB.out (4 * k + 3)
      have hlo := HK.out.row.loose k
      obtain ⟨vk, hck⟩ := HK.out.row.has k (by omega)
      have HW : Hid (wd f k = ((f (4 * k) * 256 + f (4 * k + 1)) * 256 + f (4 * k + 2)) * 256 + f (4 * k + 3)) := by rw [wd_first f k hlt]; rfl
      clear hcr
      generalize f (4 * k) = y0 at *
      generalize f (4 * k + 1) = y1 at *
      generalize f (4 * k + 2) = y2 at *
      generalize f (4 * k + 3) = y3 at *
      have s0 : IntKind.i64.wrap (4 * (k : Int)) = 4 * (k : Int) := IntWalk.i64_in _ (by omega)
      have s1 : IntKind.i64.wrap (4 * (k : Int) + 1) = 4 * (k : Int) + 1 := IntWalk.i64_in _ (by omega)
      have s2 : IntKind.i64.wrap (4 * (k : Int) + 2) = 4 * (k : Int) + 2 := IntWalk.i64_in _ (by omega)
      have s3 : IntKind.i64.wrap (4 * (k : Int) + 3) = 4 * (k : Int) + 3 := IntWalk.i64_in _ (by omega)
      have t0 : (4 * (k : Int)).toNat = 4 * k := by omega
      have t1 : (4 * (k : Int) + 1).toNat = 4 * k + 1 := by omega
      have t2 : (4 * (k : Int) + 2).toNat = 4 * k + 2 := by omega
      have t3 : (4 * (k : Int) + 3).toNat = 4 * k + 3 := by omega
      have u1 : (0 : Int) ≤ 4 * (k : Int) + 1 ∧ 4 * (k : Int) + 1 < 64 := by omega
      have u2 : (0 : Int) ≤ 4 * (k : Int) + 2 ∧ 4 * (k : Int) + 2 < 64 := by omega
      have u3 : (0 : Int) ≤ 4 * (k : Int) + 3 ∧ 4 * (k : Int) + 3 < 64 := by omega
      have u0 : (0 : Int) ≤ 4 * (k : Int) ∧ 4 * (k : Int) < 64 := by omega
      have k64 : (k : Int) < 64 := by omega
      have w0 := wrap8_32 f0
      have w1 := wrap8_32 f1
      have w2 := wrap8_32 f2
      have w3 := wrap8_32 f3
      obtain ⟨z0, hz0⟩ : ∃ z, z = y0 * 16777216 := ⟨_, rfl⟩
      obtain ⟨z1, hz1⟩ : ∃ z, z = y1 * 65536 := ⟨_, rfl⟩
      obtain ⟨z2, hz2⟩ : ∃ z, z = y2 * 256 := ⟨_, rfl⟩
      have a0 : IntKind.u32.wrap ((y0 : Int) * 16777216) = (z0 : Int) := by rw [IntKind.wrap_u32']; omega
      have a1 : IntKind.u32.wrap ((y1 : Int) * 65536) = (z1 : Int) := by rw [IntKind.wrap_u32']; omega
      have a2 : IntKind.u32.wrap ((y2 : Int) * 256) = (z2 : Int) := by rw [IntKind.wrap_u32']; omega
      have o1 := or32 24 z0 z1 (by omega) (by omega) (by omega) (by omega)
      have o2 := or32 16 (z0 + z1) z2 (by omega) (by omega) (by omega) (by omega)
      have o3 := or32 8 (z0 + z1 + z2) y3 (by omega) (by omega) (by omega) (by omega)
      have HZ : Hid (z0 + z1 + z2 + y3 = wd f k) := by rw [HW.out]; show z0 + z1 + z2 + y3 = _; omega
      generalize z0 + z1 + z2 + y3 = z at *
      generalize z0 + z1 + z2 = z012 at *
      generalize z0 + z1 = z01 at *
      clear hz0 hz1 hz2 f0 f1 f2 f3
      go_wp2_with fail
      refine wp_region_still_tail 35 (by kernel_rfl) (by kernel_rfl) ?_
      simp only [List.take_succ_cons, List.take_zero, List.drop_succ_cons, List.drop_zero]
      repeat still_step
      refine wpStill_nil ?_
      change wpList _ _ _ _ _ wr.drew
      have HK2 : Hid (Spr w (wr.setCell ⟨w.heap.size + 1, k, none⟩ (.int .u32 (z : Int))).drew f (k + 1)) := (HK.out.drew 1).set (by omega) (by rw [HZ.out]; rfl)
      clear s0 s1 s2 s3 t0 t1 t2 t3 u0 u1 u2 u3 w0 w1 w2 w3 a0 a1 a2 o1 o2 o3 c0 c1 c2 c3
      go_wp2
      go_roundw
      case rel => exact ⟨k + 1, by omega, by go_num, HK2⟩
      case measure => simp [intOf]; omega
    · have hk16 : k = 16 := by omega
      subst hk16
      rw [show ((16 : Nat) : Int) = 16 from rfl]
      go_wp2_with fail
      go_loopw [5] (fun i wr => ∃ k : Nat, 16 ≤ k ∧ k ≤ 64 ∧ i = .int .i64 k ∧ Hid (Spr w wr f k)) (fun i _ => 64 - (intOf i).toNat)
      case atStart => exact ⟨16, by omega, by omega, rfl, HK⟩
      case round =>
        obtain ⟨k, hk1, hk2, rfl, HK⟩ := hrel
        by_cases hlt : k < 64
        · have hrow := HK.out.row
          have q15 := hrow.cell (k - 15) (by omega)
          have q2 := hrow.cell (k - 2) (by omega)
          have q16 := hrow.cell (k - 16) (by omega)
          have q7 := hrow.cell (k - 7) (by omega)
          have hlo := hrow.loose k
          obtain ⟨vk, hck⟩ := hrow.has k hlt
          clear hrow
          unfold wordV at q15 q2 q16 q7
          have HW := Lib.hid (wd_next f k hk1)
          have l15 := wd_lt HB.out (k - 15)
          have l2 := wd_lt HB.out (k - 2)
          have l16 := wd_lt HB.out (k - 16)
          have l7 := wd_lt HB.out (k - 7)
          generalize wd f (k - 15) = x at *
          generalize wd f (k - 2) = y at *
          generalize wd f (k - 16) = x16 at *
          generalize wd f (k - 7) = x7 at *
          have s1 : IntKind.i64.wrap ((k : Int) - 15) = (k : Int) - 15 := IntWalk.i64_in _ (by omega)
          have s2 : IntKind.i64.wrap ((k : Int) - 2) = (k : Int) - 2 := IntWalk.i64_in _ (by omega)
          have t1 : ((k : Int) - 15).toNat = k - 15 := by omega
          have t2 : ((k : Int) - 2).toNat = k - 2 := by omega
          have u1 : (0 : Int) ≤ (k : Int) - 15 ∧ (k : Int) - 15 < 64 := by omega
          have u2 : (0 : Int) ≤ (k : Int) - 2 ∧ (k : Int) - 2 < 64 := by omega
          go_wp2_with fail
          go_quiet (fail)
          clear s1 s2 t1 t2 u1 u2
          have HKq : Hid (Spr w (wr.drewN nq) f k) := HK.out.drew nq
          have r7 := rotr_lt x 7 l15 (by omega)
          have r18 := rotr_lt x 18 l15 (by omega)
          have r17 := rotr_lt y 17 l2 (by omega)
          have r19 := rotr_lt y 19 l2 (by omega)
          have p1 := xor32 _ _ r7 r18
          have p2 : bits .xor .u32 ((rotr x 7 ^^^ rotr x 18 : Nat) : Int) ((x : Int) / 8) = ((smallA x : Nat) : Int) := xor_shr _ _ 8 3 rfl (xor_bd r7 r18) l15
          have p3 := xor32 _ _ r17 r19
          have p4 : bits .xor .u32 ((rotr y 17 ^^^ rotr y 19 : Nat) : Int) ((y : Int) / 1024) = ((smallE y : Nat) : Int) := xor_shr _ _ 1024 10 rfl (xor_bd r17 r19) l2
          have sA := smallA_lt l15
          have sE := smallE_lt l2
          have c7 := fun w => rot_at x 7 (-7) rfl l15 (by omega) (by omega) w
          have c18 := fun w => rot_at x 18 (-18) rfl l15 (by omega) (by omega) w
          have c17 := fun w => rot_at y 17 (-17) rfl l2 (by omega) (by omega) w
          have c19 := fun w => rot_at y 19 (-19) rfl l2 (by omega) (by omega) w
          generalize rotr x 7 ^^^ rotr x 18 = x718 at *
          generalize rotr y 17 ^^^ rotr y 19 = y179 at *
          generalize rotr x 7 = x7r at *
          generalize rotr x 18 = x18r at *
          generalize rotr y 17 = y17r at *
          generalize rotr y 19 = y19r at *
          generalize smallA x = a at *
          generalize smallE y = e at *
          have C7 := Lib.hid c7
          have C18 := Lib.hid c18
          have C17 := Lib.hid c17
          have C19 := Lib.hid c19
          clear c7 c18 c17 c19
          go_wp2_with (first | (go_at_call 22; (with_reducible refine (C7.out _).mono ?_); rintro e w' ⟨rfl, rfl⟩) | (go_at_call 22; (with_reducible refine (C18.out _).mono ?_); rintro e w' ⟨rfl, rfl⟩) | (go_at_call 22; (with_reducible refine (C17.out _).mono ?_); rintro e w' ⟨rfl, rfl⟩) | (go_at_call 22; (with_reducible refine (C19.out _).mono ?_); rintro e w' ⟨rfl, rfl⟩))
          clear p1 p2 p3 p4
          have q16' : (wr.drewN nq).cell? ⟨w.heap.size + 1, k - 16, none⟩ = some (.int .u32 (x16 : Int)) := q16
          have q7' : (wr.drewN nq).cell? ⟨w.heap.size + 1, k - 7, none⟩ = some (.int .u32 (x7 : Int)) := q7
          have hck' : (wr.drewN nq).cell? ⟨w.heap.size + 1, k, none⟩ = some vk := hck
          have hlo' : (wr.drewN nq).frozen? ⟨w.heap.size + 1, k, none⟩ = false := hlo
          clear q16 q7 hck hlo q15 q2
          generalize wr.drewN nq = wq at *
          have s1 : IntKind.i64.wrap ((k : Int) - 16) = (k : Int) - 16 := IntWalk.i64_in _ (by omega)
          have s2 : IntKind.i64.wrap ((k : Int) - 7) = (k : Int) - 7 := IntWalk.i64_in _ (by omega)
          have t1 : ((k : Int) - 16).toNat = k - 16 := by omega
          have t2 : ((k : Int) - 7).toNat = k - 7 := by omega
          have u1 : (k : Int) - 16 < 64 := by omega
          have u2 : (k : Int) - 7 < 64 := by omega
          have v1 : (16 : Int) ≤ (k : Int) := by omega
          have v2 : (7 : Int) ≤ (k : Int) := by omega
          have v3 : (0 : Int) ≤ (k : Int) - 16 := by omega
          have v4 : (0 : Int) ≤ (k : Int) - 7 := by omega
          have k64 : (k : Int) < 64 := by omega
          obtain ⟨m1, hm1⟩ : ∃ m, m = (x16 + a) % 4294967296 := ⟨_, rfl⟩
          obtain ⟨m2, hm2⟩ : ∃ m, m = (m1 + x7) % 4294967296 := ⟨_, rfl⟩
          obtain ⟨m3, hm3⟩ : ∃ m, m = (m2 + e) % 4294967296 := ⟨_, rfl⟩
          have g1 : IntKind.u32.wrap ((x16 : Int) + (a : Int)) = (m1 : Int) := by rw [IntKind.wrap_u32']; omega
          have g2 : IntKind.u32.wrap ((m1 : Int) + (x7 : Int)) = (m2 : Int) := by rw [IntKind.wrap_u32']; omega
          have g3 : IntKind.u32.wrap ((m2 : Int) + (e : Int)) = (m3 : Int) := by rw [IntKind.wrap_u32']; omega
          have HM : Hid (m3 = wd f k) := by rw [HW.out]; show m3 = _; omega
          have HKs : Hid (Spr w (wq.setCell ⟨w.heap.size + 1, k, none⟩ (.int .u32 (m3 : Int))).drew f (k + 1)) := (HKq.out.drew 1).set hlt (by rw [HM.out]; rfl)
          clear hm1 hm2 hm3
          refine wp_region_still_tail 15 (by kernel_rfl) (by kernel_rfl) ?_
          simp only [List.take_succ_cons, List.take_zero, List.drop_succ_cons, List.drop_zero]
          repeat still_step
          refine wpStill_nil ?_
          change wpList _ _ _ _ _ wq.drew
          clear s1 s2 t1 t2 u1 u2 v1 v2 v3 v4 g1 g2 g3
          go_wp2
          go_roundw
          case rel => exact ⟨k + 1, by omega, by omega, by go_num, HKs⟩
          case measure => simp [intOf]; omega
        · have hk64 : k = 64 := by omega
          subst hk64
          have hwh := HK.out.row.whole
          obtain ⟨old, ho1, ho2, _⟩ := HK.out.out
          have HX : Hid ((wr.setRow w.heap.size (rowArr 64 (wordV f))).heap[w.heap.size]? = some (.cells (rowArr 64 (wordV f)) 50 (0, 0))) := setRow_heap _ _ _ _ _ _ ho1
          go_wp2_with (first | (refine wpList_load_row rfl 50 _ rfl (w.heap.size + 1) rfl 50 (rowArr 64 (wordV f)) (0, 0) _ hwh Tryd.underlying50 rfl (by rw [rowArr_size]; kernel_rfl) ?_) | (refine wpList_store_row rfl 50 _ _ rfl w.heap.size (rowArr 64 (wordV f)) rfl rfl 50 old ho1 (by rw [rowArr_size]; kernel_rfl) (by rw [rowArr_size]; exact ho2) (oneCell_word f 64) ?_))
          exact bodyPost_ret (v := .agg (rowArr 64 (wordV f))) (results_cell_row rfl _ _ w.heap.size 50 (rowArr 64 (wordV f)) (0, 0) _ rfl HX.out Tryd.underlying50 rfl (by rw [rowArr_size]; kernel_rfl)) rfl ⟨rfl, below_setRow HK.out.below (Nat.le_refl _) _⟩

end Go.Proofs.YthnodhlgfokfjaaDoor
