/-
  One block taken into the state: 'mix' of package sum.
-/
import Derived.Test.YthnodhlgfokfjaaDoorDigA
namespace Go.Proofs.YthnodhlgfokfjaaDoor
open Go.ChangeShapes Go.WideShapes Go.ChangeAt Go.RowKit
set_option linter.unusedVariables false

def S8.vals (x : S8) : Array Value := #[.int .u32 (x.p : Int), .int .u32 (x.q : Int), .int .u32 (x.r : Int), .int .u32 (x.s : Int), .int .u32 (x.t : Int), .int .u32 (x.u : Int), .int .u32 (x.v : Int), .int .u32 (x.w : Int)]

def stV (x : S8) (i : Nat) : Value := .int .u32 ((x.get i : Nat) : Int)
theorem vals_row (x : S8) : x.vals = rowArr 8 (stV x) := rfl

theorem agg24 (w : World) : (isAgg 24).run Tryd.prog w = .ok false w := by kernel_rfl
theorem size24 (w : World) : (sizeOf 24).run Tryd.prog w = .ok 1 w := by kernel_rfl
theorem part_row (g : Nat → Value) (n k : Nat) (hk : k < n) (w : World) : (part 24 (rowArr n g) k).run Tryd.prog w = .ok (g k) w := by
  have e : (rowArr n g)[k]? = some (g k) := by simp [rowArr, hk]
  simp only [part, Sem.run_bind, agg24, Result.andThen, e]
  rfl
theorem index_row {t : TypeId} {n : Nat} (ht : Tryd.prog.underlying t = some (.array n 24)) (g : Nat → Value) (k : Nat) (hk : k < n) (w : World) :
    (Instr.index t (.agg (rowArr n g)) (.int .i64 (k : Int))).run Tryd.prog w = .ok (g k) w := by
  have h : (0 : Int) ≤ (k : Int) ∧ (k : Int) < (n : Int) := by omega
  simp only [Instr.index, asIntOf, Sem.run_bind, Sem.run_pure, Result.andThen, run_underlying ht, if_pos h, size24]
  have := part_row g n k hk w
  simpa using this

/-- The table of the rounds' constants, as it is laid. -/
def Ks (w : World) : Prop := ∀ k, k < 64 → w.cell? ⟨2, k, none⟩ = some (.int .u32 ((kN k : Nat) : Int))

theorem Ks.lt {w : World} (h : Ks w) : 2 < w.heap.size := World.block_lt_of_cell? w ⟨2, 0, none⟩ (h 0 (by omega))
theorem Ks.below {w w' : World} {B : Nat} (h : Ks w) (hB : 2 < B) (b : Below B w w') : Ks w' := fun k hk => by
  rw [b.cell (p := ⟨2, k, none⟩) hB]; exact h k hk

/-- The state's row while the rounds' end is added to it. -/
structure Mix (W wr : World) (x m : S8) (k : Nat) : Prop where
  below : Below W.heap.size W wr
  row : Row wr W.heap.size 36 8 8 (fun j => if j < k then stV m j else stV x j)
  out : Row wr (W.heap.size + 1) 36 8 0 (stV m)

theorem Mix.set {W wr : World} {x m : S8} {k : Nat} (h : Mix W wr x m k) (hk : k < 8) {v : Value} (hv : v = stV m k) : Mix W (wr.setCell ⟨W.heap.size, k, none⟩ v) x m (k + 1) where
  below := h.below.setCell (Nat.le_refl _) _
  row := (h.row.upd k hk v).mono (Nat.le_refl _) fun j hj => by
    by_cases e : j = k
    · subst e; simp [hv]
    · simp only [e, if_false]
      by_cases e2 : j < k
      · simp [e2, Nat.lt_succ_of_lt e2]
      · simp [e2, show ¬ j < k + 1 by omega]
  out := h.out.other (by omega)

theorem S8.get_lt {x : S8} (h : x.Ok) (j : Nat) (hj : j < 8) : x.get j < 4294967296 := by
  match j, hj with
  | 0, _ => exact h.p
  | 1, _ => exact h.q
  | 2, _ => exact h.r
  | 3, _ => exact h.s
  | 4, _ => exact h.t
  | 5, _ => exact h.u
  | 6, _ => exact h.v
  | 7, _ => exact h.w
  | k + 8, h => omega

theorem oneCell_st (x : S8) : (rowArr 8 (stV x)).all (·.oneCell') = true := by simp [rowArr, stV, Value.oneCell']

set_option maxRecDepth 100000 in
set_option maxHeartbeats 1000000 in
theorem mix_core (b off cap : Nat) (f : Nat → Nat) (x m : S8) (hx : x.Ok) (HMM : Hid (mixN x f = m)) (w : World) (hb : BytesF f) (hc : BlockIn w b off f) (hK : Ks w) :
    Calls Tryd.prog 14 #[.agg x.vals, .slice (some ⟨b, off, none⟩) 64 cap] w fun e w' => e = .returned (.agg (rowArr 8 (stV m))) ∧ Below w.heap.size w w' := by
  have HB := Lib.hid hb
  have HC := Lib.hid hc
  have HK := Lib.hid hK
  have HX := Lib.hid hx
  have hlt := hK.lt
  clear hb hc hK hx
  obtain ⟨p, q, r, s, t, u, v, z⟩ := x
  unfold S8.vals
  go_enter Tryd.func14, Tryd.ntmps14
  go_wp2_with fail
  refine (spread_any b off cap f _ HB.out (HC.out.below (Nat.le_refl _) (((Below.refl _ _).alloc (Nat.le_refl _) _).alloc (by simp) _))).mono ?_
  rintro e w2 ⟨rfl, b2⟩
  have hs2 := b2.size
  have HR0 : Hid (Row w2 w.heap.size 36 8 8 (stV ⟨p, q, r, s, t, u, v, z⟩)) := Row.below ((Row.new_whole w _ _ _ _ _ rfl rfl).alloc _) b2 (by simp; omega)
  have HR1 : Hid (Row w2 (w.heap.size + 1) 36 8 0 (stV ⟨p, q, r, s, t, u, v, z⟩)) := Row.below (Row.new' _ _ _ _ _ _ (by simp) rfl) b2 (by simp)
  have HBW : Hid (Below w.heap.size w w2) := (((Below.refl _ _).alloc (Nat.le_refl _) _).alloc (by simp) _).trans (b2.mono (by simp; omega))
  simp at hs2
  clear b2
  go_wp2_with (refine wpList_store_row rfl 50 _ _ rfl w2.heap.size (rowArr 64 (wordV f)) rfl rfl 50 _ (heap_alloc_last _ _) (by rw [rowArr_size]; kernel_rfl) (by rw [rowArr_size]; rfl) (oneCell_word f 64) ?_)
  rw [World.setRow_alloc_new]
  have HRW : Hid (Row (w2.alloc (.cells (rowArr 64 (wordV f)) 50)) w2.heap.size 50 64 64 (wordV f)) := Row.new_whole _ _ _ _ _ _ rfl rfl
  have HR0' : Hid (Row (w2.alloc (.cells (rowArr 64 (wordV f)) 50)) w.heap.size 36 8 8 (stV ⟨p, q, r, s, t, u, v, z⟩)) := HR0.out.alloc _
  have HR1' : Hid (Row (w2.alloc (.cells (rowArr 64 (wordV f)) 50)) (w.heap.size + 1) 36 8 0 (stV ⟨p, q, r, s, t, u, v, z⟩)) := HR1.out.alloc _
  have HBW' : Hid (Below w.heap.size w (w2.alloc (.cells (rowArr 64 (wordV f)) 50))) := HBW.out.alloc (by omega) _
  clear HR0 HR1 HBW
  generalize w2.alloc (.cells (rowArr 64 (wordV f)) 50) = w3 at *
  generalize w2.heap.size = B2 at *
  have q0 : w3.cell? ⟨w.heap.size, 0, none⟩ = some (.int .u32 (p : Int)) := HR0'.out.cell 0 (by omega)
  have q1 : w3.cell? ⟨w.heap.size, 1, none⟩ = some (.int .u32 (q : Int)) := HR0'.out.cell 1 (by omega)
  have q2 : w3.cell? ⟨w.heap.size, 2, none⟩ = some (.int .u32 (r : Int)) := HR0'.out.cell 2 (by omega)
  have q3 : w3.cell? ⟨w.heap.size, 3, none⟩ = some (.int .u32 (s : Int)) := HR0'.out.cell 3 (by omega)
  have q4 : w3.cell? ⟨w.heap.size, 4, none⟩ = some (.int .u32 (t : Int)) := HR0'.out.cell 4 (by omega)
  have q5 : w3.cell? ⟨w.heap.size, 5, none⟩ = some (.int .u32 (u : Int)) := HR0'.out.cell 5 (by omega)
  have q6 : w3.cell? ⟨w.heap.size, 6, none⟩ = some (.int .u32 (v : Int)) := HR0'.out.cell 6 (by omega)
  have q7 : w3.cell? ⟨w.heap.size, 7, none⟩ = some (.int .u32 (z : Int)) := HR0'.out.cell 7 (by omega)
  go_quiet (fail)
  clear q0 q1 q2 q3 q4 q5 q6 q7
  have HRW2 : Hid (Row (w3.drewN nq) B2 50 64 64 (wordV f)) := HRW.out.drew nq
  have HR02 : Hid (Row (w3.drewN nq) w.heap.size 36 8 8 (stV ⟨p, q, r, s, t, u, v, z⟩)) := HR0'.out.drew nq
  have HR12 : Hid (Row (w3.drewN nq) (w.heap.size + 1) 36 8 0 (stV ⟨p, q, r, s, t, u, v, z⟩)) := HR1'.out.drew nq
  have HBW2 : Hid (Below w.heap.size w (w3.drewN nq)) := below_drewN HBW'.out nq
  generalize w3.drewN nq = w4 at *
  clear HRW HR0' HR1' HBW'
  have HK4 : Hid (Ks w4) := HK.out.below hlt HBW2.out
  have hwh := HRW2.out.whole
  go_wp2_with (refine wpList_load_row rfl 50 _ rfl B2 rfl 50 (rowArr 64 (wordV f)) (0, 0) _ hwh Tryd.underlying50 rfl (by rw [rowArr_size]; kernel_rfl) ?_)
  clear hwh
  go_loop [6, 7, 8, 9, 10, 11, 12, 13, 42] (fun a0 a1 a2 a3 a4 a5 a6 a7 i => ∃ (k : Nat) (y : S8), k ≤ 64 ∧ Hid (y = rnds ⟨p, q, r, s, t, u, v, z⟩ f k) ∧ i = .int .i64 k ∧ a0 = .int .u32 (y.p : Int) ∧ a1 = .int .u32 (y.q : Int) ∧ a2 = .int .u32 (y.r : Int) ∧ a3 = .int .u32 (y.s : Int) ∧ a4 = .int .u32 (y.t : Int) ∧ a5 = .int .u32 (y.u : Int) ∧ a6 = .int .u32 (y.v : Int) ∧ a7 = .int .u32 (y.w : Int)) (fun _ _ _ _ _ _ _ _ i => 64 - (intOf i).toNat)
  case atStart => exact ⟨0, ⟨p, q, r, s, t, u, v, z⟩, by omega, rfl, rfl, rfl, rfl, rfl, rfl, rfl, rfl, rfl, rfl⟩
  case round =>
    obtain ⟨k, y, hk, HY, rfl, rfl, rfl, rfl, rfl, rfl, rfl, rfl, rfl⟩ := hrel
    by_cases hlt : k < 64
    · have hi : (Instr.index 50 (.agg (rowArr 64 (wordV f))) (.int .i64 (k : Int))).run Tryd.prog w4 = .ok (.int .u32 ((wd f k : Nat) : Int)) w4 := index_row Tryd.underlying50 (wordV f) k hlt w4
      have hkk := HK4.out k hlt
      have hY : y.Ok := by rw [HY.out]; exact rnds_ok HX.out _ _
      have hwl := wd_lt HB.out k
      have hkl := kN_lt k hlt
      obtain ⟨y0, y1, y2, y3, y4, y5, y6, y7⟩ := y
      obtain ⟨l0, l1, l2, l3, l4, l5, l6, l7⟩ := hY
      simp only at l0 l1 l2 l3 l4 l5 l6 l7
      have C6 := Lib.hid (fun w => rot_at y4 6 (-6) rfl l4 (by omega) (by omega) w)
      have C11 := Lib.hid (fun w => rot_at y4 11 (-11) rfl l4 (by omega) (by omega) w)
      have C25 := Lib.hid (fun w => rot_at y4 25 (-25) rfl l4 (by omega) (by omega) w)
      have C2 := Lib.hid (fun w => rot_at y0 2 (-2) rfl l0 (by omega) (by omega) w)
      have C13 := Lib.hid (fun w => rot_at y0 13 (-13) rfl l0 (by omega) (by omega) w)
      have C22 := Lib.hid (fun w => rot_at y0 22 (-22) rfl l0 (by omega) (by omega) w)
      have r6 := rotr_lt y4 6 l4 (by omega)
      have r11 := rotr_lt y4 11 l4 (by omega)
      have r25 := rotr_lt y4 25 l4 (by omega)
      have r2 := rotr_lt y0 2 l0 (by omega)
      have r13 := rotr_lt y0 13 l0 (by omega)
      have r22 := rotr_lt y0 22 l0 (by omega)
      have e1 := xor32 _ _ r6 r11
      have e2 : bits .xor .u32 ((rotr y4 6 ^^^ rotr y4 11 : Nat) : Int) ((rotr y4 25 : Nat) : Int) = ((bigE y4 : Nat) : Int) := xor32 _ _ (xor_bd r6 r11) r25
      have e3 := xor32 _ _ r2 r13
      have e4 : bits .xor .u32 ((rotr y0 2 ^^^ rotr y0 13 : Nat) : Int) ((rotr y0 22 : Nat) : Int) = ((bigA y0 : Nat) : Int) := xor32 _ _ (xor_bd r2 r13) r22
      have e5 := u32_and_nat y4 y5 l4 l5
      have e6 : bits .xor .u32 IntKind.u32.max (y4 : Int) = ((4294967295 - y4 : Nat) : Int) := by rw [← not_eq y4 l4]; exact u32_xor_nat 4294967295 y4 (by omega) l4
      have e6' : bits .xor .u32 (if IntKind.u32.signed = true then -1 else IntKind.u32.max) (y4 : Int) = ((4294967295 - y4 : Nat) : Int) := e6
      have e7 := u32_and_nat (4294967295 - y4) y6 (by omega) l6
      have e8 : bits .xor .u32 ((y4 &&& y5 : Nat) : Int) (((4294967295 - y4) &&& y6 : Nat) : Int) = ((chN y4 y5 y6 : Nat) : Int) := xor32 _ _ (and_bd _ l4) (and_bd _ (by omega))
      have e9 := u32_and_nat y0 y1 l0 l1
      have e10 := u32_and_nat y0 y2 l0 l2
      have e11 := u32_and_nat y1 y2 l1 l2
      have e12 := xor32 _ _ (and_bd y1 l0) (and_bd y2 l0)
      have e13 : bits .xor .u32 ((y0 &&& y1 ^^^ y0 &&& y2 : Nat) : Int) ((y1 &&& y2 : Nat) : Int) = ((majN y0 y1 y2 : Nat) : Int) := xor32 _ _ (xor_bd (and_bd _ l0) (and_bd _ l0)) (and_bd _ l1)
      have HN : Hid (rnds ⟨p, q, r, s, t, u, v, z⟩ f (k + 1) = ⟨(y7 + bigE y4 + chN y4 y5 y6 + kN k + wd f k + (bigA y0 + majN y0 y1 y2)) % 4294967296, y0, y1, y2, (y3 + (y7 + bigE y4 + chN y4 y5 y6 + kN k + wd f k)) % 4294967296, y4, y5, y6⟩) := by
        show rnd (rnds _ f k) _ _ = _
        rw [← HY.out]; rfl
      have h1l := bigE_lt l4
      have h2l := bigA_lt l0
      have h3l := chN_lt (u := y5) l4 l6
      have h4l := majN_lt (r := y2) l0 l1
      generalize wd f k = c at *
      generalize kN k = kk at *
      generalize bigE y4 = bE at *
      generalize bigA y0 = bA at *
      generalize chN y4 y5 y6 = ch at *
      generalize majN y0 y1 y2 = mj at *
      generalize rotr y4 6 ^^^ rotr y4 11 = z1 at *
      generalize rotr y0 2 ^^^ rotr y0 13 = z2 at *
      generalize rotr y4 6 = z3 at *
      generalize rotr y4 11 = z4 at *
      generalize rotr y4 25 = z5 at *
      generalize rotr y0 2 = z6 at *
      generalize rotr y0 13 = z7 at *
      generalize rotr y0 22 = z8 at *
      generalize y0 &&& y1 ^^^ y0 &&& y2 = z9 at *
      generalize y0 &&& y1 = z10 at *
      generalize y0 &&& y2 = z11 at *
      generalize y1 &&& y2 = z12 at *
      generalize (4294967295 - y4) &&& y6 = z13 at *
      generalize y4 &&& y5 = z14 at *
      generalize 4294967295 - y4 = z15 at *
      go_wp2_with (first | (go_at_call 22; (with_reducible refine (C6.out _).mono ?_); rintro e w' ⟨rfl, rfl⟩) | (go_at_call 22; (with_reducible refine (C11.out _).mono ?_); rintro e w' ⟨rfl, rfl⟩) | (go_at_call 22; (with_reducible refine (C25.out _).mono ?_); rintro e w' ⟨rfl, rfl⟩) | (go_at_call 22; (with_reducible refine (C2.out _).mono ?_); rintro e w' ⟨rfl, rfl⟩) | (go_at_call 22; (with_reducible refine (C13.out _).mono ?_); rintro e w' ⟨rfl, rfl⟩) | (go_at_call 22; (with_reducible refine (C22.out _).mono ?_); rintro e w' ⟨rfl, rfl⟩))
      clear e1 e2 e3 e4 e5 e6 e6' e7 e8 e9 e10 e11 e12 e13
      go_round
      case rel => exact ⟨k + 1, _, by omega, HN.out.symm, by go_num, by congr 1; simp <;> omega, rfl, rfl, rfl, by congr 1; simp <;> omega, rfl, rfl, rfl⟩
      case measure => simp [intOf]; omega
    · have hk64 : k = 64 := by omega
      subst hk64
      rw [show ((64 : Nat) : Int) = 64 from rfl]
      go_wp2_with fail
      have HM : Hid (∀ j, j < 8 → m.get j = ((⟨p, q, r, s, t, u, v, z⟩ : S8).get j + y.get j) % 4294967296) := by
        intro j hj
        rw [← HMM.out]
        unfold mixN
        rw [← HY.out]
        match j, hj with
        | 0, _ => rfl
        | 1, _ => rfl
        | 2, _ => rfl
        | 3, _ => rfl
        | 4, _ => rfl
        | 5, _ => rfl
        | 6, _ => rfl
        | 7, _ => rfl
        | k + 8, h => omega
      have hY : y.Ok := by rw [HY.out]; exact rnds_ok HX.out _ _
      have HYO := Lib.hid hY
      clear hY
      have HMx : Hid (Mix w w4 ⟨p, q, r, s, t, u, v, z⟩ m 0) := ⟨HBW2.out, HR02.out.mono (Nat.le_refl _) (fun j hj => by simp), HR12.out.mono (Nat.le_refl _) (fun j hj => by omega)⟩
      clear HBW2 HR02 HR12 HRW2 HK4
      have HXO := HX
      clear HX
      go_loopw [116] (fun i wr => ∃ k : Nat, k ≤ 8 ∧ i = .int .i64 k ∧ Hid (Mix w wr ⟨p, q, r, s, t, u, v, z⟩ m k)) (fun i _ => 8 - (intOf i).toNat)
      case atStart => exact ⟨0, by omega, rfl, HMx⟩
      case round =>
        obtain ⟨k, hk, rfl, HK⟩ := hrel
        by_cases hlt : k < 8
        · have hi : (Instr.index 36 (.agg #[.int .u32 (y.p : Int), .int .u32 (y.q : Int), .int .u32 (y.r : Int), .int .u32 (y.s : Int), .int .u32 (y.t : Int), .int .u32 (y.u : Int), .int .u32 (y.v : Int), .int .u32 (y.w : Int)]) (.int .i64 (k : Int))).run Tryd.prog wr = .ok (.int .u32 ((y.get k : Nat) : Int)) wr := index_row Tryd.underlying36 (stV y) k hlt wr
          have hc : wr.cell? ⟨w.heap.size, k, none⟩ = some (.int .u32 (((⟨p, q, r, s, t, u, v, z⟩ : S8).get k : Nat) : Int)) := by
            have := HK.out.row.cell k hlt
            simp only [Nat.lt_irrefl, if_false] at this
            exact this
          have hlo := HK.out.row.loose k
          have g1 := S8.get_lt HXO.out k hlt
          have g2 := S8.get_lt HYO.out k hlt
          have HV := Lib.hid (HM.out k hlt)
          generalize (⟨p, q, r, s, t, u, v, z⟩ : S8).get k = a at *
          generalize y.get k = c at *
          have hk8 : (k : Int) < 8 := by omega
          have HS : Hid (Mix w (wr.setCell ⟨w.heap.size, k, none⟩ (.int .u32 (((a : Int) + (c : Int)) % 4294967296))) ⟨p, q, r, s, t, u, v, z⟩ m (k + 1)) := HK.out.set hlt (by unfold stV; rw [HV.out]; simp)
          go_wp2_with fail
          go_roundw
          case rel => exact ⟨k + 1, by omega, by go_num, HS⟩
          case measure => simp [intOf]; omega
        · have hk8 : k = 8 := by omega
          subst hk8
          have hr : Row wr w.heap.size 36 8 8 (stV m) := HK.out.row.mono (Nat.le_refl _) (fun j hj => by simp [hj])
          have hwh := hr.whole
          obtain ⟨old, ho1, ho2, _⟩ := HK.out.out
          have HX : Hid ((wr.setRow (w.heap.size + 1) (rowArr 8 (stV m))).heap[w.heap.size + 1]? = some (.cells (rowArr 8 (stV m)) 36 (0, 0))) := setRow_heap _ _ _ _ _ _ ho1
          clear hr
          go_wp2_with (first | (refine wpList_load_row rfl 36 _ rfl w.heap.size rfl 36 (rowArr 8 (stV m)) (0, 0) _ hwh Tryd.underlying36 rfl (by rw [rowArr_size]; kernel_rfl) ?_) | (refine wpList_store_row rfl 36 _ _ rfl (w.heap.size + 1) (rowArr 8 (stV m)) rfl rfl 36 old ho1 (by rw [rowArr_size]; kernel_rfl) (by rw [rowArr_size]; exact ho2) (oneCell_st m) ?_))
          exact bodyPost_ret (v := .agg (rowArr 8 (stV m))) (results_cell_row rfl _ _ (w.heap.size + 1) 36 (rowArr 8 (stV m)) (0, 0) _ rfl HX.out Tryd.underlying36 rfl (by rw [rowArr_size]; kernel_rfl)) rfl ⟨rfl, below_setRow HK.out.below (by omega) _⟩

theorem mix_any (b off cap : Nat) (f : Nat → Nat) (x : S8) (hx : x.Ok) (w : World) (hb : BytesF f) (hc : BlockIn w b off f) (hK : Ks w) :
    Calls Tryd.prog 14 #[.agg (rowArr 8 (stV x)), .slice (some ⟨b, off, none⟩) 64 cap] w fun e w' => e = .returned (.agg (rowArr 8 (stV (mixN x f)))) ∧ Below w.heap.size w w' := by
  rw [← vals_row x]
  exact mix_core b off cap f x (mixN x f) hx rfl w hb hc hK

end Go.Proofs.YthnodhlgfokfjaaDoor
