/-
  One block taken into the state: 'mix' of package sum.
  A state spelled as bytes: 'spell' of package sum.
  The last blocks of a message: 'pad' of package sum.
-/
import Derived.Test.YtfgaohilpbocbaaGreatDoorMm5
import Derived.Laws.CopyOwn
import Derived.Deep.OwnRows
section
namespace Go.Proofs.YtfgaohilpbocbaaGreatDoor.Sha
open Go.ChangeShapes Go.WideShapes Go.ChangeAt Go.RowKit
set_option linter.unusedVariables false

def S8.vals (x : S8) : Array Value := #[.int .u32 (x.p : Int), .int .u32 (x.q : Int), .int .u32 (x.r : Int), .int .u32 (x.s : Int), .int .u32 (x.t : Int), .int .u32 (x.u : Int), .int .u32 (x.v : Int), .int .u32 (x.w : Int)]

def stV (x : S8) (i : Nat) : Value := .int .u32 ((x.get i : Nat) : Int)
theorem vals_row (x : S8) : x.vals = rowArr 8 (stV x) := rfl

theorem agg24 (w : World) : (isAgg 49).run Tryz.prog w = .ok false w := by kernel_rfl
theorem size24 (w : World) : (sizeOf 49).run Tryz.prog w = .ok 1 w := by kernel_rfl
theorem part_row (g : Nat → Value) (n k : Nat) (hk : k < n) (w : World) : (part 49 (rowArr n g) k).run Tryz.prog w = .ok (g k) w := by
  have e : (rowArr n g)[k]? = some (g k) := by simp [rowArr, hk]
  simp only [part, Sem.run_bind, agg24, Result.andThen, e]
  rfl
theorem index_row {t : TypeId} {n : Nat} (ht : Tryz.prog.underlying t = some (.array n 49)) (g : Nat → Value) (k : Nat) (hk : k < n) (w : World) :
    (Instr.index t (.agg (rowArr n g)) (.int .i64 (k : Int))).run Tryz.prog w = .ok (g k) w := by
  have h : (0 : Int) ≤ (k : Int) ∧ (k : Int) < (n : Int) := by omega
  simp only [Instr.index, asIntOf, Sem.run_bind, Sem.run_pure, Result.andThen, run_underlying ht, if_pos h, size24]
  have := part_row g n k hk w
  simpa using this

/-- The table of the rounds' constants, as it is laid. -/
def Ks (w : World) : Prop := ∀ k, k < 64 → w.cell? ⟨1, k, none⟩ = some (.int .u32 ((kN k : Nat) : Int))

theorem Ks.lt {w : World} (h : Ks w) : 1 < w.heap.size := World.block_lt_of_cell? w ⟨1, 0, none⟩ (h 0 (by omega))
theorem Ks.below {w w' : World} {B : Nat} (h : Ks w) (hB : 1 < B) (b : Below B w w') : Ks w' := fun k hk => by
  rw [b.cell (p := ⟨1, k, none⟩) hB]; exact h k hk

/-- The state's row while the rounds' end is added to it. -/
structure Mix (W wr : World) (x m : S8) (k : Nat) : Prop where
  below : Below W.heap.size W wr
  row : Row wr W.heap.size 196 8 8 (fun j => if j < k then stV m j else stV x j)
  out : Row wr (W.heap.size + 1) 196 8 0 (stV m)

theorem Mix.set {W wr : World} {x m : S8} {k : Nat} (h : Mix W wr x m k) (hk : k < 8) {v : Value} (hv : v = stV m k) : Mix W (wr.setCell ⟨W.heap.size, k, none⟩ v) x m (k + 1) where
  below := h.below.setCell (Nat.le_refl _) _
  row := (h.row.upd k hk v).mono (Nat.le_refl _) fun j hj => by
    by_cases e : j = k
    · subst e; simp [hv]
    · simp only [e, if_false]
      by_cases e2 : j < k
      · simp [e2, Nat.lt_succ_of_lt e2]
      · simp [e2, show ¬ j < k + 1 by omega]
  out := h.out.other (by omega)

theorem S8.get_lt {x : S8} (h : x.Ok) (j : Nat) (hj : j < 8) : x.get j < 4294967296 := by
  match j, hj with
  | 0, _ => exact h.p
  | 1, _ => exact h.q
  | 2, _ => exact h.r
  | 3, _ => exact h.s
  | 4, _ => exact h.t
  | 5, _ => exact h.u
  | 6, _ => exact h.v
  | 7, _ => exact h.w
  | k + 8, h => omega

theorem oneCell_st (x : S8) : (rowArr 8 (stV x)).all (·.oneCell') = true := by simp [rowArr, stV, Value.oneCell']

set_option maxRecDepth 100000 in
set_option maxHeartbeats 1000000 in
theorem mix_core (b off cap : Nat) (f : Nat → Nat) (x m : S8) (hx : x.Ok) (HMM : Hid (mixN x f = m)) (w : World) (hb : BytesF f) (hc : BlockIn w b off f) (hK : Ks w) :
    Calls Tryz.prog 100 #[.agg x.vals, .slice (some ⟨b, off, none⟩) 64 cap] w fun e w' => e = .returned (.agg (rowArr 8 (stV m))) ∧ Below w.heap.size w w' := by
  have HB := Lib.hid hb
  have HC := Lib.hid hc
  have HK := Lib.hid hK
  have HX := Lib.hid hx
  have hlt := hK.lt
  clear hb hc hK hx
  obtain ⟨p, q, r, s, t, u, v, z⟩ := x
  unfold S8.vals
  go_enter Tryz.func100, Tryz.ntmps100
  go_wp2_with fail
  refine (spread_any b off cap f _ HB.out (HC.out.below (Nat.le_refl _) (((Below.refl _ _).alloc (Nat.le_refl _) _).alloc (by simp) _))).mono ?_
  rintro e w2 ⟨rfl, b2⟩
  have hs2 := b2.size
  have HR0 : Hid (Row w2 w.heap.size 196 8 8 (stV ⟨p, q, r, s, t, u, v, z⟩)) := Row.below ((Row.new_whole w _ _ _ _ _ rfl rfl).alloc _) b2 (by simp; omega)
  have HR1 : Hid (Row w2 (w.heap.size + 1) 196 8 0 (stV ⟨p, q, r, s, t, u, v, z⟩)) := Row.below (Row.new' _ _ _ _ _ _ (by simp) rfl) b2 (by simp)
  have HBW : Hid (Below w.heap.size w w2) := (((Below.refl _ _).alloc (Nat.le_refl _) _).alloc (by simp) _).trans (b2.mono (by simp; omega))
  simp at hs2
  clear b2
  go_wp2_with (refine wpList_store_row rfl 231 _ _ rfl w2.heap.size (rowArr 64 (wordV f)) rfl rfl 231 _ (heap_alloc_last _ _) (by rw [rowArr_size]; kernel_rfl) (by rw [rowArr_size]; rfl) (oneCell_word f 64) ?_)
  rw [World.setRow_alloc_new]
  have HRW : Hid (Row (w2.alloc (.cells (rowArr 64 (wordV f)) 231)) w2.heap.size 231 64 64 (wordV f)) := Row.new_whole _ _ _ _ _ _ rfl rfl
  have HR0' : Hid (Row (w2.alloc (.cells (rowArr 64 (wordV f)) 231)) w.heap.size 196 8 8 (stV ⟨p, q, r, s, t, u, v, z⟩)) := HR0.out.alloc _
  have HR1' : Hid (Row (w2.alloc (.cells (rowArr 64 (wordV f)) 231)) (w.heap.size + 1) 196 8 0 (stV ⟨p, q, r, s, t, u, v, z⟩)) := HR1.out.alloc _
  have HBW' : Hid (Below w.heap.size w (w2.alloc (.cells (rowArr 64 (wordV f)) 231))) := HBW.out.alloc (by omega) _
  clear HR0 HR1 HBW
  generalize w2.alloc (.cells (rowArr 64 (wordV f)) 231) = w3 at *
  generalize w2.heap.size = B2 at *
  have q0 : w3.cell? ⟨w.heap.size, 0, none⟩ = some (.int .u32 (p : Int)) := HR0'.out.cell 0 (by omega)
  have q1 : w3.cell? ⟨w.heap.size, 1, none⟩ = some (.int .u32 (q : Int)) := HR0'.out.cell 1 (by omega)
  have q2 : w3.cell? ⟨w.heap.size, 2, none⟩ = some (.int .u32 (r : Int)) := HR0'.out.cell 2 (by omega)
  have q3 : w3.cell? ⟨w.heap.size, 3, none⟩ = some (.int .u32 (s : Int)) := HR0'.out.cell 3 (by omega)
  have q4 : w3.cell? ⟨w.heap.size, 4, none⟩ = some (.int .u32 (t : Int)) := HR0'.out.cell 4 (by omega)
  have q5 : w3.cell? ⟨w.heap.size, 5, none⟩ = some (.int .u32 (u : Int)) := HR0'.out.cell 5 (by omega)
  have q6 : w3.cell? ⟨w.heap.size, 6, none⟩ = some (.int .u32 (v : Int)) := HR0'.out.cell 6 (by omega)
  have q7 : w3.cell? ⟨w.heap.size, 7, none⟩ = some (.int .u32 (z : Int)) := HR0'.out.cell 7 (by omega)
  go_quiet (fail)
  clear q0 q1 q2 q3 q4 q5 q6 q7
  have HRW2 : Hid (Row (w3.drewN nq) B2 231 64 64 (wordV f)) := HRW.out.drew nq
  have HR02 : Hid (Row (w3.drewN nq) w.heap.size 196 8 8 (stV ⟨p, q, r, s, t, u, v, z⟩)) := HR0'.out.drew nq
  have HR12 : Hid (Row (w3.drewN nq) (w.heap.size + 1) 196 8 0 (stV ⟨p, q, r, s, t, u, v, z⟩)) := HR1'.out.drew nq
  have HBW2 : Hid (Below w.heap.size w (w3.drewN nq)) := below_drewN HBW'.out nq
  generalize w3.drewN nq = w4 at *
  clear HRW HR0' HR1' HBW'
  have HK4 : Hid (Ks w4) := HK.out.below hlt HBW2.out
  have hwh := HRW2.out.whole
  go_wp2_with (refine wpList_load_row rfl 231 _ rfl B2 rfl 231 (rowArr 64 (wordV f)) (0, 0) _ hwh Tryz.underlying231 rfl (by rw [rowArr_size]; kernel_rfl) ?_)
  clear hwh
  go_loop [6, 7, 8, 9, 10, 11, 12, 13, 42] (fun a0 a1 a2 a3 a4 a5 a6 a7 i => ∃ (k : Nat) (y : S8), k ≤ 64 ∧ Hid (y = rnds ⟨p, q, r, s, t, u, v, z⟩ f k) ∧ i = .int .i64 k ∧ a0 = .int .u32 (y.p : Int) ∧ a1 = .int .u32 (y.q : Int) ∧ a2 = .int .u32 (y.r : Int) ∧ a3 = .int .u32 (y.s : Int) ∧ a4 = .int .u32 (y.t : Int) ∧ a5 = .int .u32 (y.u : Int) ∧ a6 = .int .u32 (y.v : Int) ∧ a7 = .int .u32 (y.w : Int)) (fun _ _ _ _ _ _ _ _ i => 64 - (intOf i).toNat)
  case atStart => exact ⟨0, ⟨p, q, r, s, t, u, v, z⟩, by omega, rfl, rfl, rfl, rfl, rfl, rfl, rfl, rfl, rfl, rfl⟩
  case round =>
    obtain ⟨k, y, hk, HY, rfl, rfl, rfl, rfl, rfl, rfl, rfl, rfl, rfl⟩ := hrel
    by_cases hlt : k < 64
    · have hi : (Instr.index 231 (.agg (rowArr 64 (wordV f))) (.int .i64 (k : Int))).run Tryz.prog w4 = .ok (.int .u32 ((wd f k : Nat) : Int)) w4 := index_row Tryz.underlying231 (wordV f) k hlt w4
      have hkk := HK4.out k hlt
      have hY : y.Ok := by rw [HY.out]; exact rnds_ok HX.out _ _
      have hwl := wd_lt HB.out k
      have hkl := kN_lt k hlt
      obtain ⟨y0, y1, y2, y3, y4, y5, y6, y7⟩ := y
      obtain ⟨l0, l1, l2, l3, l4, l5, l6, l7⟩ := hY
      simp only at l0 l1 l2 l3 l4 l5 l6 l7
      have C6 := Lib.hid (fun w => rot_at y4 6 (-6) rfl l4 (by omega) (by omega) w)
      have C11 := Lib.hid (fun w => rot_at y4 11 (-11) rfl l4 (by omega) (by omega) w)
      have C25 := Lib.hid (fun w => rot_at y4 25 (-25) rfl l4 (by omega) (by omega) w)
      have C2 := Lib.hid (fun w => rot_at y0 2 (-2) rfl l0 (by omega) (by omega) w)
      have C13 := Lib.hid (fun w => rot_at y0 13 (-13) rfl l0 (by omega) (by omega) w)
      have C22 := Lib.hid (fun w => rot_at y0 22 (-22) rfl l0 (by omega) (by omega) w)
      have r6 := rotr_lt y4 6 l4 (by omega)
      have r11 := rotr_lt y4 11 l4 (by omega)
      have r25 := rotr_lt y4 25 l4 (by omega)
      have r2 := rotr_lt y0 2 l0 (by omega)
      have r13 := rotr_lt y0 13 l0 (by omega)
      have r22 := rotr_lt y0 22 l0 (by omega)
      have e1 := xor32 _ _ r6 r11
      have e2 : bits .xor .u32 ((rotr y4 6 ^^^ rotr y4 11 : Nat) : Int) ((rotr y4 25 : Nat) : Int) = ((bigE y4 : Nat) : Int) := xor32 _ _ (xor_bd r6 r11) r25
      have e3 := xor32 _ _ r2 r13
      have e4 : bits .xor .u32 ((rotr y0 2 ^^^ rotr y0 13 : Nat) : Int) ((rotr y0 22 : Nat) : Int) = ((bigA y0 : Nat) : Int) := xor32 _ _ (xor_bd r2 r13) r22
      have e5 := u32_and_nat y4 y5 l4 l5
      have e6 : bits .xor .u32 IntKind.u32.max (y4 : Int) = ((4294967295 - y4 : Nat) : Int) := by rw [← not_eq y4 l4]; exact u32_xor_nat 4294967295 y4 (by omega) l4
      have e6' : bits .xor .u32 (if IntKind.u32.signed = true then -1 else IntKind.u32.max) (y4 : Int) = ((4294967295 - y4 : Nat) : Int) := e6
      have e7 := u32_and_nat (4294967295 - y4) y6 (by omega) l6
      have e8 : bits .xor .u32 ((y4 &&& y5 : Nat) : Int) (((4294967295 - y4) &&& y6 : Nat) : Int) = ((chN y4 y5 y6 : Nat) : Int) := xor32 _ _ (and_bd _ l4) (and_bd _ (by omega))
      have e9 := u32_and_nat y0 y1 l0 l1
      have e10 := u32_and_nat y0 y2 l0 l2
      have e11 := u32_and_nat y1 y2 l1 l2
      have e12 := xor32 _ _ (and_bd y1 l0) (and_bd y2 l0)
      have e13 : bits .xor .u32 ((y0 &&& y1 ^^^ y0 &&& y2 : Nat) : Int) ((y1 &&& y2 : Nat) : Int) = ((majN y0 y1 y2 : Nat) : Int) := xor32 _ _ (xor_bd (and_bd _ l0) (and_bd _ l0)) (and_bd _ l1)
      have HN : Hid (rnds ⟨p, q, r, s, t, u, v, z⟩ f (k + 1) = ⟨(y7 + bigE y4 + chN y4 y5 y6 + kN k + wd f k + (bigA y0 + majN y0 y1 y2)) % 4294967296, y0, y1, y2, (y3 + (y7 + bigE y4 + chN y4 y5 y6 + kN k + wd f k)) % 4294967296, y4, y5, y6⟩) := by
        show rnd (rnds _ f k) _ _ = _
        rw [← HY.out]; rfl
      have h1l := bigE_lt l4
      have h2l := bigA_lt l0
      have h3l := chN_lt (u := y5) l4 l6
      have h4l := majN_lt (r := y2) l0 l1
      generalize wd f k = c at *
      generalize kN k = kk at *
      generalize bigE y4 = bE at *
      generalize bigA y0 = bA at *
      generalize chN y4 y5 y6 = ch at *
      generalize majN y0 y1 y2 = mj at *
      generalize rotr y4 6 ^^^ rotr y4 11 = z1 at *
      generalize rotr y0 2 ^^^ rotr y0 13 = z2 at *
      generalize rotr y4 6 = z3 at *
      generalize rotr y4 11 = z4 at *
      generalize rotr y4 25 = z5 at *
      generalize rotr y0 2 = z6 at *
      generalize rotr y0 13 = z7 at *
      generalize rotr y0 22 = z8 at *
      generalize y0 &&& y1 ^^^ y0 &&& y2 = z9 at *
      generalize y0 &&& y1 = z10 at *
      generalize y0 &&& y2 = z11 at *
      generalize y1 &&& y2 = z12 at *
      generalize (4294967295 - y4) &&& y6 = z13 at *
      generalize y4 &&& y5 = z14 at *
      generalize 4294967295 - y4 = z15 at *
      go_wp2_with (first | (go_at_call 135; (with_reducible refine (C6.out _).mono ?_); rintro e w' ⟨rfl, rfl⟩) | (go_at_call 135; (with_reducible refine (C11.out _).mono ?_); rintro e w' ⟨rfl, rfl⟩) | (go_at_call 135; (with_reducible refine (C25.out _).mono ?_); rintro e w' ⟨rfl, rfl⟩) | (go_at_call 135; (with_reducible refine (C2.out _).mono ?_); rintro e w' ⟨rfl, rfl⟩) | (go_at_call 135; (with_reducible refine (C13.out _).mono ?_); rintro e w' ⟨rfl, rfl⟩) | (go_at_call 135; (with_reducible refine (C22.out _).mono ?_); rintro e w' ⟨rfl, rfl⟩))
      clear e1 e2 e3 e4 e5 e6 e6' e7 e8 e9 e10 e11 e12 e13
      go_round
      case rel => exact ⟨k + 1, _, by omega, HN.out.symm, by go_num, by congr 1; simp <;> omega, rfl, rfl, rfl, by congr 1; simp <;> omega, rfl, rfl, rfl⟩
      case measure => simp [intOf]; omega
    · have hk64 : k = 64 := by omega
      subst hk64
      rw [show ((64 : Nat) : Int) = 64 from rfl]
      go_wp2_with fail
      have HM : Hid (∀ j, j < 8 → m.get j = ((⟨p, q, r, s, t, u, v, z⟩ : S8).get j + y.get j) % 4294967296) := by
        intro j hj
        rw [← HMM.out]
        unfold mixN
        rw [← HY.out]
        match j, hj with
        | 0, _ => rfl
        | 1, _ => rfl
        | 2, _ => rfl
        | 3, _ => rfl
        | 4, _ => rfl
        | 5, _ => rfl
        | 6, _ => rfl
        | 7, _ => rfl
        | k + 8, h => omega
      have hY : y.Ok := by rw [HY.out]; exact rnds_ok HX.out _ _
      have HYO := Lib.hid hY
      clear hY
      have HMx : Hid (Mix w w4 ⟨p, q, r, s, t, u, v, z⟩ m 0) := ⟨HBW2.out, HR02.out.mono (Nat.le_refl _) (fun j hj => by simp), HR12.out.mono (Nat.le_refl _) (fun j hj => by omega)⟩
      clear HBW2 HR02 HR12 HRW2 HK4
      have HXO := HX
      clear HX
      go_loopw [116] (fun i wr => ∃ k : Nat, k ≤ 8 ∧ i = .int .i64 k ∧ Hid (Mix w wr ⟨p, q, r, s, t, u, v, z⟩ m k)) (fun i _ => 8 - (intOf i).toNat)
      case atStart => exact ⟨0, by omega, rfl, HMx⟩
      case round =>
        obtain ⟨k, hk, rfl, HK⟩ := hrel
        by_cases hlt : k < 8
        · have hi : (Instr.index 196 (.agg #[.int .u32 (y.p : Int), .int .u32 (y.q : Int), .int .u32 (y.r : Int), .int .u32 (y.s : Int), .int .u32 (y.t : Int), .int .u32 (y.u : Int), .int .u32 (y.v : Int), .int .u32 (y.w : Int)]) (.int .i64 (k : Int))).run Tryz.prog wr = .ok (.int .u32 ((y.get k : Nat) : Int)) wr := index_row Tryz.underlying196 (stV y) k hlt wr
          have hc : wr.cell? ⟨w.heap.size, k, none⟩ = some (.int .u32 (((⟨p, q, r, s, t, u, v, z⟩ : S8).get k : Nat) : Int)) := by
            have := HK.out.row.cell k hlt
            simp only [Nat.lt_irrefl, if_false] at this
            exact this
          have hlo := HK.out.row.loose k
          have g1 := S8.get_lt HXO.out k hlt
          have g2 := S8.get_lt HYO.out k hlt
          have HV := Lib.hid (HM.out k hlt)
          generalize (⟨p, q, r, s, t, u, v, z⟩ : S8).get k = a at *
          generalize y.get k = c at *
          have hk8 : (k : Int) < 8 := by omega
          have HS : Hid (Mix w (wr.setCell ⟨w.heap.size, k, none⟩ (.int .u32 (((a : Int) + (c : Int)) % 4294967296))) ⟨p, q, r, s, t, u, v, z⟩ m (k + 1)) := HK.out.set hlt (by unfold stV; rw [HV.out]; simp)
          go_wp2_with fail
          go_roundw
          case rel => exact ⟨k + 1, by omega, by go_num, HS⟩
          case measure => simp [intOf]; omega
        · have hk8 : k = 8 := by omega
          subst hk8
          have hr : Row wr w.heap.size 196 8 8 (stV m) := HK.out.row.mono (Nat.le_refl _) (fun j hj => by simp [hj])
          have hwh := hr.whole
          obtain ⟨old, ho1, ho2, _⟩ := HK.out.out
          have HX : Hid ((wr.setRow (w.heap.size + 1) (rowArr 8 (stV m))).heap[w.heap.size + 1]? = some (.cells (rowArr 8 (stV m)) 196 (0, 0))) := setRow_heap _ _ _ _ _ _ ho1
          clear hr
          go_wp2_with (first | (refine wpList_load_row rfl 196 _ rfl w.heap.size rfl 196 (rowArr 8 (stV m)) (0, 0) _ hwh Tryz.underlying196 rfl (by rw [rowArr_size]; kernel_rfl) ?_) | (refine wpList_store_row rfl 196 _ _ rfl (w.heap.size + 1) (rowArr 8 (stV m)) rfl rfl 196 old ho1 (by rw [rowArr_size]; kernel_rfl) (by rw [rowArr_size]; exact ho2) (oneCell_st m) ?_))
          exact bodyPost_ret (v := .agg (rowArr 8 (stV m))) (results_cell_row rfl _ _ (w.heap.size + 1) 196 (rowArr 8 (stV m)) (0, 0) _ rfl HX.out Tryz.underlying196 rfl (by rw [rowArr_size]; kernel_rfl)) rfl ⟨rfl, below_setRow HK.out.below (by omega) _⟩

theorem mix_any (b off cap : Nat) (f : Nat → Nat) (x : S8) (hx : x.Ok) (w : World) (hb : BytesF f) (hc : BlockIn w b off f) (hK : Ks w) :
    Calls Tryz.prog 100 #[.agg (rowArr 8 (stV x)), .slice (some ⟨b, off, none⟩) 64 cap] w fun e w' => e = .returned (.agg (rowArr 8 (stV (mixN x f)))) ∧ Below w.heap.size w w' := by
  rw [← vals_row x]
  exact mix_core b off cap f x (mixN x f) hx rfl w hb hc hK

end Go.Proofs.YtfgaohilpbocbaaGreatDoor.Sha
end

section
namespace Go.Proofs.YtfgaohilpbocbaaGreatDoor.Sha
open Go.ChangeShapes Go.WideShapes Go.ChangeAt Go.RowKit
set_option linter.unusedVariables false

def spV (x : S8) (i : Nat) : Value := .int .u8 ((x.get (i / 4) / 2 ^ (24 - 8 * (i % 4)) % 256 : Nat) : Int)
theorem oneCell_sp (x : S8) (n : Nat) : (rowArr n (spV x)).all (·.oneCell') = true := by simp [rowArr, spV, Value.oneCell']

/-- Two rows of 32 bytes: the end's, and the one that is filled. -/
structure Spl (W wr : World) (x : S8) (k : Nat) : Prop where
  below : Below W.heap.size W wr
  out : Row wr (W.heap.size + 1) 50 32 0 (spV x)
  row : Row wr (W.heap.size + 2) 50 32 k (spV x)

theorem Spl.set {W wr : World} {x : S8} {k : Nat} (h : Spl W wr x k) (hk : k < 32) {v : Value} (hv : v = spV x k) : Spl W (wr.setCell ⟨W.heap.size + 2, k, none⟩ v) x (k + 1) :=
  ⟨h.below.setCell (by simp) _, h.out.other (by omega), h.row.set hk hv⟩

set_option maxRecDepth 100000 in
set_option maxHeartbeats 1000000 in
theorem spell_any (x : S8) (hx : x.Ok) (w : World) :
    Calls Tryz.prog 102 #[.agg (rowArr 8 (stV x))] w fun e w' => e = .returned (.agg (rowArr 32 (spV x))) ∧ Below w.heap.size w w' := by
  have HX := Lib.hid hx
  clear hx
  have hz : Hid (∀ c : Array Value, c.size = 32 → Spl w (((w.alloc (.cells (rowArr 8 (stV x)) 196)).alloc (.cells c 50)).alloc (.cells c 50)) x 0 ∧ (((w.alloc (.cells (rowArr 8 (stV x)) 196)).alloc (.cells c 50)).alloc (.cells c 50)).heap[w.heap.size]? = some (.cells (rowArr 8 (stV x)) 196)) := fun c hc =>
    ⟨⟨(((Below.refl _ _).alloc (Nat.le_refl _) _).alloc (by simp) _).alloc (by simp; omega) _, (Row.new' _ _ _ _ _ _ (by simp) hc).alloc _, Row.new' _ _ _ _ _ _ (by simp) hc⟩,
     by rw [Below.heap_alloc _ _ _ (by simp; omega), Below.heap_alloc _ _ _ (by simp)]; exact heap_alloc_last _ _⟩
  go_enter Tryz.func102, Tryz.ntmps102
  go_wp2_with (refine wpList_load_row rfl 196 _ rfl w.heap.size rfl 196 (rowArr 8 (stV x)) (0, 0) _ (hz.out _ rfl).2 Tryz.underlying196 rfl (by rw [rowArr_size]; kernel_rfl) ?_)
  go_loopw [8] (fun i wr => ∃ k : Nat, k ≤ 8 ∧ i = .int .i64 k ∧ Hid (Spl w wr x (4 * k))) (fun i _ => 8 - (intOf i).toNat)
  case atStart => exact ⟨0, by omega, rfl, (hz.out _ rfl).1⟩
  case round =>
    obtain ⟨k, hk, rfl, HK⟩ := hrel
    by_cases hlt : k < 8
    · have hi : (Instr.index 196 (.agg (rowArr 8 (stV x))) (.int .i64 (k : Int))).run Tryz.prog wr = .ok (.int .u32 ((x.get k : Nat) : Int)) wr := index_row Tryz.underlying196 (stV x) k hlt wr
      have hg := S8.get_lt HX.out k hlt
      have HV : Hid (∀ j, j < 4 → spV x (4 * k + j) = .int .u8 ((x.get k / 2 ^ (24 - 8 * j) % 256 : Nat) : Int)) := fun j hj => by
        unfold spV
        rw [show (4 * k + j) / 4 = k by omega, show (4 * k + j) % 4 = j by omega]
      generalize x.get k = g at *
      go_wp2_with fail
      clear hi
      go_loopw [12] (fun i wr => ∃ j : Nat, j ≤ 4 ∧ i = .int .i64 j ∧ Hid (Spl w wr x (4 * k + j))) (fun i _ => 4 - (intOf i).toNat)
      case atStart => exact ⟨0, by omega, rfl, HK⟩
      case round =>
        obtain ⟨j, hj, rfl, HJ⟩ := hrel
        by_cases hlj : j < 4
        · have hlo := HJ.out.row.loose (4 * k + j)
          obtain ⟨vk, hck⟩ := HJ.out.row.has (4 * k + j) (by omega)
          have HV2 := Lib.hid (HV.out j hlj)
          have HS : Hid (Spl w (wr.setCell ⟨w.heap.size + 1 + 1, 4 * k + j, none⟩ (.int .u8 ((g : Int) / 2 ^ (24 - 8 * j) % 256))) x (4 * k + (j + 1))) := HJ.out.set (by omega) (by rw [HV2.out]; simp)
          go_wp2_with fail
          go_roundw
          case rel => exact ⟨j + 1, by omega, by go_num, HS⟩
          case measure => simp [intOf]; omega
        · have hj4 : j = 4 := by omega
          subst hj4
          go_wp2_with fail
          go_roundw
          case rel => exact ⟨k + 1, by omega, by go_num, HJ⟩
          case measure => simp [intOf]; omega
    · have hk8 : k = 8 := by omega
      subst hk8
      have hwh := HK.out.row.whole
      obtain ⟨old, ho1, ho2, _⟩ := HK.out.out
      have HX : Hid ((wr.setRow (w.heap.size + 1) (rowArr 32 (spV x))).heap[w.heap.size + 1]? = some (.cells (rowArr 32 (spV x)) 50 (0, 0))) := setRow_heap _ _ _ _ _ _ ho1
      go_wp2_with (first | (refine wpList_load_row rfl 50 _ rfl (w.heap.size + 2) rfl 50 (rowArr 32 (spV x)) (0, 0) _ hwh Tryz.underlying50 rfl (by rw [rowArr_size]; kernel_rfl) ?_) | (refine wpList_store_row rfl 50 _ _ rfl (w.heap.size + 1) (rowArr 32 (spV x)) rfl rfl 50 old ho1 (by rw [rowArr_size]; kernel_rfl) (by rw [rowArr_size]; exact ho2) (oneCell_sp x 32) ?_))
      exact bodyPost_ret (v := .agg (rowArr 32 (spV x))) (results_cell_row rfl _ _ (w.heap.size + 1) 50 (rowArr 32 (spV x)) (0, 0) _ rfl HX.out Tryz.underlying50 rfl (by rw [rowArr_size]; kernel_rfl)) rfl ⟨rfl, below_setRow HK.out.below (by omega) _⟩

end Go.Proofs.YtfgaohilpbocbaaGreatDoor.Sha
end

section
namespace Go.Proofs.YtfgaohilpbocbaaGreatDoor.Sha
open Go.ChangeShapes Go.WideShapes Go.ChangeAt Go.RowKit
set_option linter.unusedVariables false

def zV (_ : Nat) : Value := .int .u8 0
theorem info5 : (Tryz.prog.info? 5).map (fun i => (i.zero, i.size, i.bytes)) = some (some (.int .u8 0), 1, 1) := by kernel_rfl

set_option maxRecDepth 100000 in
theorem make_row (n : Nat) (hn : n ≤ 1000000) (w : World) : (Instr.makeSlice 53 (.int .i64 (n : Int)) (.int .i64 (n : Int))).run Tryz.prog w = .ok (.slice (some ⟨w.heap.size, 0, none⟩) n n) (w.alloc (.cells (rowArr n zV) 5)) := by
  have h := run_make_row' (P := Tryz.prog) 53 5 (.int .u8 0) 1 Tryz.underlying53 info5 rfl .i64 .i64 n (by omega) (by omega) w
  rw [h]
  congr 3
  apply Array.ext
  · simp [madeCells, rowArr]
  · intro i h1 h2
    simp [madeCells, rowArr, zV, Nat.mod_one]

/-- The last bytes, a bit of 1, noughts. -/
def tl0 (l : List Nat) (i : Nat) : Nat := if i < l.length then l.getD i 0 else if i = l.length then 128 else 0
/-- .. and, from the end on, j bytes of the length in bits. -/
def tlN (l : List Nat) (n sz j i : Nat) : Nat := if sz - j ≤ i then n * 8 / 2 ^ (8 * (sz - 1 - i)) % 256 else tl0 l i
def tlV (l : List Nat) (n sz j i : Nat) : Value := .int .u8 ((tlN l n sz j i : Nat) : Int)

theorem tl_set {w : World} {B : Nat} {l : List Nat} {n sz j : Nat} (h : Row w B 5 sz sz (tlV l n sz j)) (hj : j < sz) {v : Value} (hv : v = .int .u8 ((n * 8 / 2 ^ (8 * j) % 256 : Nat) : Int)) :
    Row (w.setCell ⟨B, sz - 1 - j, none⟩ v) B 5 sz sz (tlV l n sz (j + 1)) :=
  (h.upd (sz - 1 - j) (by omega) v).mono (Nat.le_refl _) fun i hi => by
    by_cases e : i = sz - 1 - j
    · simp only [e, if_true, hv]
      unfold tlV tlN
      rw [if_pos (by omega), show sz - 1 - (sz - 1 - j) = j by omega]
    · simp only [e, if_false]
      unfold tlV tlN
      by_cases h2 : sz - j ≤ i
      · rw [if_pos h2, if_pos (by omega)]
      · rw [if_neg h2, if_neg (by omega)]

theorem tl_start {w : World} {B sz n : Nat} {l : List Nat} (hl : l.length < sz) (h : w.heap[B]? = some (.cells (splice (rowArr sz zV).toList 0 (l.map fun c : Nat => Value.int .u8 (c : Int))).toArray 5 (0, 0))) :
    Row (w.setCell ⟨B, l.length, none⟩ (.int .u8 128)) B 5 sz sz (tlV l n sz 0) := by
  have hr : Row w B 5 sz sz (fun i => if i < l.length then .int .u8 ((l.getD i 0 : Nat) : Int) else .int .u8 0) := by
    refine ⟨_, h, ?_, fun i hi => ?_⟩
    · simp [splice, rowArr]; omega
    · simp only [splice, List.take_zero, List.nil_append, Nat.zero_add, List.length_map]
      by_cases e : i < l.length
      · rw [if_pos e]
        simp [List.getElem?_append, e, List.getD]
      · rw [if_neg e]
        simp [List.getElem?_append, e, rowArr, zV, show l.length + (i - l.length) = i by omega, hi]
  refine (hr.upd l.length hl _).mono (Nat.le_refl _) fun i hi => ?_
  have e0 : ¬ (sz - 0 ≤ i) := by omega
  unfold tlV tlN tl0
  simp only [e0, if_false]
  by_cases e : i = l.length
  · simp only [e, if_true, Nat.lt_irrefl, if_false]; rfl
  · simp only [e, if_false]
    by_cases e2 : i < l.length
    · simp only [e2, if_true]
    · simp only [e2, if_false]; rfl

theorem tl_raw {w : World} {B sz : Nat} {l : List Nat} (hl : l.length < sz) (h : w.heap[B]? = some (.cells (splice (rowArr sz zV).toList 0 (l.map fun c : Nat => Value.int .u8 (c : Int))).toArray 5 (0, 0))) :
    (∃ v, w.cell? ⟨B, l.length, none⟩ = some v) ∧ w.frozen? ⟨B, l.length, none⟩ = false :=
  have hr : Row w B 5 sz 0 zV := ⟨_, h, by simp [splice, rowArr]; omega, fun i hi => by omega⟩
  ⟨hr.has _ hl, hr.loose _⟩

structure Pad (W wr : World) (l : List Nat) (n sz j : Nat) : Prop where
  below : Below W.heap.size W wr
  row : Row wr W.heap.size 5 sz sz (tlV l n sz j)


set_option maxRecDepth 100000 in
set_option maxHeartbeats 1000000 in
theorem pad64 (a : Option Addr) (cap : Nat) (l : List Nat) (n : Nat) (w : World) (hl : l.length + 9 ≤ 64) (hn : n ≤ 1000000000) (hb : IsByte l) (hc : BytesAt w a l) :
    Calls Tryz.prog 101 #[.slice a l.length cap, .int .i64 (n : Int)] w fun e w' => e = .returned (.slice (some ⟨w.heap.size, 0, none⟩) 64 64) ∧ Pad w w' l n 64 8 := by
  have HB := Lib.hid hb
  have HC := Lib.hid hc
  clear hb hc
  have hmk : ∀ w : World, (Instr.makeSlice 53 (.int .i64 64) (.int .i64 64)).run Tryz.prog w = .ok (.slice (some ⟨w.heap.size, 0, none⟩) 64 64) (w.alloc (.cells (rowArr 64 zV) 5)) := fun w => make_row 64 (by omega) w
  have hdec : decide ((64 : Int) < (l.length : Int) + 1 + 8) = false := by simp; omega
  have hh := heap_alloc_last w (.cells (rowArr 64 zV) 5)
  have hbl : Below w.heap.size w (w.alloc (.cells (rowArr 64 zV) 5)) := (Below.refl _ _).alloc (Nat.le_refl _) _
  have HC1 : Hid (BytesAt (w.alloc (.cells (rowArr 64 zV) 5)) a l) := HC.out.below (Nat.le_refl _) hbl
  have HH := Lib.hid hh
  have HBL := Lib.hid hbl
  clear hh hbl
  have hg : (w.alloc (.cells (rowArr 64 zV) 5)).heap[w.heap.size]? = some (.cells (rowArr 64 zV).toList.toArray 5 (0, 0)) := by simpa using HH.out
  have hcl : (l.map fun c : Nat => Value.int .u8 (c : Int)).length = Nat.min l.length 64 := by
    rw [List.length_map]; exact (Nat.min_eq_left (by omega)).symm
  have hpos : 0 < (l.map fun c : Nat => Value.int .u8 (c : Int)).length → (some ⟨w.heap.size, 0, none⟩ : Option Addr) = some ⟨w.heap.size, 0, none⟩ ∧ ∃ ad, a = some ad ∧ ∀ j v, (l.map fun c : Nat => Value.int .u8 (c : Int))[j]? = some v → (w.alloc (.cells (rowArr 64 zV) 5)).cell? (ad.add j) = some v := by
    intro h0
    refine ⟨rfl, ?_⟩
    rcases HC1.out with rfl | ⟨b, off, rfl, hbi⟩
    · simp at h0
    · refine ⟨_, rfl, fun j v hv => ?_⟩
      have hj : j < l.length := by
        rcases Nat.lt_or_ge j l.length with h | h
        · exact h
        · simp [List.getElem?_eq_none h] at hv
      have e : v = .int .u8 ((l[j] : Nat) : Int) := by simpa [hj] using hv.symm
      rw [e]
      have := hbi j hj
      by_cases j0 : j = 0
      · subst j0; simpa [Addr.add] using this
      · simpa [Addr.add, j0] using this
  have hfit : 0 + (l.map fun c : Nat => Value.int .u8 (c : Int)).length ≤ (rowArr 64 zV).toList.length := by simp [rowArr]; omega
  have h1c : ∀ v ∈ (l.map fun c : Nat => Value.int .u8 (c : Int)), v.oneCell' = true := by
    intro v hv
    obtain ⟨c, _, rfl⟩ := List.mem_map.1 hv
    rfl
  have HG := Lib.hid hg
  have HCL := Lib.hid hcl
  have HPOS := Lib.hid hpos
  have HFIT := Lib.hid hfit
  have H1C := Lib.hid h1c
  clear hg hcl hpos hfit h1c HH HC1
  go_enter Tryz.func101, Tryz.ntmps101
  go_wp2_with ((with_reducible refine wpList_copy_splice rfl (.tmp 16) (.tmp 17) 53 53 rfl 5 Tryz.underlying53 (by kernel_rfl) (some ⟨w.heap.size, 0, none⟩) a 64 64 l.length cap rfl rfl w.heap.size 0 (rowArr 64 zV).toList 5 HG.out (l.map fun c : Nat => Value.int .u8 (c : Int)) HCL.out HPOS.out HFIT.out H1C.out w.heap.size w HBL.out (Nat.le_refl _) ?_); intro w2 HW2 b2; obtain ⟨⟨v0, hc0⟩, hf0⟩ := tl_raw (l := l) (sz := 64) (by omega) HW2.out; have HP : Hid (Pad w (w2.setCell ⟨w.heap.size, l.length, none⟩ (.int .u8 128)) l n 64 0) := ⟨b2.setCell (Nat.le_refl _) _, tl_start (l := l) (sz := 64) (n := n) (by omega) HW2.out⟩; have HB2 := Lib.hid b2; clear b2)
  clear HG HCL HPOS HFIT H1C HBL
  go_loopw [26] (fun i wr => ∃ j : Nat, j ≤ 8 ∧ i = .int .i64 j ∧ Hid (Pad w wr l n 64 j)) (fun i _ => 8 - (intOf i).toNat)
  case atStart => exact ⟨0, by omega, rfl, HP⟩
  case round =>
    obtain ⟨j, hj, rfl, HJ⟩ := hrel
    by_cases hlt : j < 8
    · have hlo := HJ.out.row.loose (64 - 1 - j)
      obtain ⟨vk, hck⟩ := HJ.out.row.has (64 - 1 - j) (by omega)
      have HS : Hid (Pad w (wr.setCell ⟨w.heap.size, 63 - j, none⟩ (.int .u8 ((n : Int) * 8 / 2 ^ (8 * j) % 256))) l n 64 (j + 1)) := ⟨HJ.out.below.setCell (Nat.le_refl _) _, tl_set HJ.out.row (by omega) (by simp)⟩
      go_wp2_with fail
      go_roundw
      case rel => exact ⟨j + 1, by omega, by go_num, HS⟩
      case measure => simp [intOf]; omega
    · have hj8 : j = 8 := by omega
      subst hj8
      go_wp2_with fail
      go_ret
      exact ⟨rfl, HJ.out⟩

set_option maxRecDepth 100000 in
set_option maxHeartbeats 1000000 in
theorem pad128 (a : Option Addr) (cap : Nat) (l : List Nat) (n : Nat) (w : World) (hl0 : 64 < l.length + 9) (hl : l.length < 64) (hn : n ≤ 1000000000) (hb : IsByte l) (hc : BytesAt w a l) :
    Calls Tryz.prog 101 #[.slice a l.length cap, .int .i64 (n : Int)] w fun e w' => e = .returned (.slice (some ⟨w.heap.size, 0, none⟩) 128 128) ∧ Pad w w' l n 128 8 := by
  have HB := Lib.hid hb
  have HC := Lib.hid hc
  clear hb hc
  have hmk : ∀ w : World, (Instr.makeSlice 53 (.int .i64 128) (.int .i64 128)).run Tryz.prog w = .ok (.slice (some ⟨w.heap.size, 0, none⟩) 128 128) (w.alloc (.cells (rowArr 128 zV) 5)) := fun w => make_row 128 (by omega) w
  have hdec : decide ((64 : Int) < (l.length : Int) + 1 + 8) = true := by simp; omega
  have hh := heap_alloc_last w (.cells (rowArr 128 zV) 5)
  have hbl : Below w.heap.size w (w.alloc (.cells (rowArr 128 zV) 5)) := (Below.refl _ _).alloc (Nat.le_refl _) _
  have HC1 : Hid (BytesAt (w.alloc (.cells (rowArr 128 zV) 5)) a l) := HC.out.below (Nat.le_refl _) hbl
  have HH := Lib.hid hh
  have HBL := Lib.hid hbl
  clear hh hbl
  have hg : (w.alloc (.cells (rowArr 128 zV) 5)).heap[w.heap.size]? = some (.cells (rowArr 128 zV).toList.toArray 5 (0, 0)) := by simpa using HH.out
  have hcl : (l.map fun c : Nat => Value.int .u8 (c : Int)).length = Nat.min l.length 128 := by
    rw [List.length_map]; exact (Nat.min_eq_left (by omega)).symm
  have hpos : 0 < (l.map fun c : Nat => Value.int .u8 (c : Int)).length → (some ⟨w.heap.size, 0, none⟩ : Option Addr) = some ⟨w.heap.size, 0, none⟩ ∧ ∃ ad, a = some ad ∧ ∀ j v, (l.map fun c : Nat => Value.int .u8 (c : Int))[j]? = some v → (w.alloc (.cells (rowArr 128 zV) 5)).cell? (ad.add j) = some v := by
    intro h0
    refine ⟨rfl, ?_⟩
    rcases HC1.out with rfl | ⟨b, off, rfl, hbi⟩
    · simp at h0
    · refine ⟨_, rfl, fun j v hv => ?_⟩
      have hj : j < l.length := by
        rcases Nat.lt_or_ge j l.length with h | h
        · exact h
        · simp [List.getElem?_eq_none h] at hv
      have e : v = .int .u8 ((l[j] : Nat) : Int) := by simpa [hj] using hv.symm
      rw [e]
      have := hbi j hj
      by_cases j0 : j = 0
      · subst j0; simpa [Addr.add] using this
      · simpa [Addr.add, j0] using this
  have hfit : 0 + (l.map fun c : Nat => Value.int .u8 (c : Int)).length ≤ (rowArr 128 zV).toList.length := by simp [rowArr]; omega
  have h1c : ∀ v ∈ (l.map fun c : Nat => Value.int .u8 (c : Int)), v.oneCell' = true := by
    intro v hv
    obtain ⟨c, _, rfl⟩ := List.mem_map.1 hv
    rfl
  have HG := Lib.hid hg
  have HCL := Lib.hid hcl
  have HPOS := Lib.hid hpos
  have HFIT := Lib.hid hfit
  have H1C := Lib.hid h1c
  clear hg hcl hpos hfit h1c HH HC1
  go_enter Tryz.func101, Tryz.ntmps101
  go_wp2_with ((with_reducible refine wpList_copy_splice rfl (.tmp 16) (.tmp 17) 53 53 rfl 5 Tryz.underlying53 (by kernel_rfl) (some ⟨w.heap.size, 0, none⟩) a 128 128 l.length cap rfl rfl w.heap.size 0 (rowArr 128 zV).toList 5 HG.out (l.map fun c : Nat => Value.int .u8 (c : Int)) HCL.out HPOS.out HFIT.out H1C.out w.heap.size w HBL.out (Nat.le_refl _) ?_); intro w2 HW2 b2; obtain ⟨⟨v0, hc0⟩, hf0⟩ := tl_raw (l := l) (sz := 128) (by omega) HW2.out; have HP : Hid (Pad w (w2.setCell ⟨w.heap.size, l.length, none⟩ (.int .u8 128)) l n 128 0) := ⟨b2.setCell (Nat.le_refl _) _, tl_start (l := l) (sz := 128) (n := n) (by omega) HW2.out⟩; have HB2 := Lib.hid b2; clear b2)
  clear HG HCL HPOS HFIT H1C HBL
  go_loopw [26] (fun i wr => ∃ j : Nat, j ≤ 8 ∧ i = .int .i64 j ∧ Hid (Pad w wr l n 128 j)) (fun i _ => 8 - (intOf i).toNat)
  case atStart => exact ⟨0, by omega, rfl, HP⟩
  case round =>
    obtain ⟨j, hj, rfl, HJ⟩ := hrel
    by_cases hlt : j < 8
    · have hlo := HJ.out.row.loose (128 - 1 - j)
      obtain ⟨vk, hck⟩ := HJ.out.row.has (128 - 1 - j) (by omega)
      have HS : Hid (Pad w (wr.setCell ⟨w.heap.size, 127 - j, none⟩ (.int .u8 ((n : Int) * 8 / 2 ^ (8 * j) % 256))) l n 128 (j + 1)) := ⟨HJ.out.below.setCell (Nat.le_refl _) _, tl_set HJ.out.row (by omega) (by simp)⟩
      go_wp2_with fail
      go_roundw
      case rel => exact ⟨j + 1, by omega, by go_num, HS⟩
      case measure => simp [intOf]; omega
    · have hj8 : j = 8 := by omega
      subst hj8
      go_wp2_with fail
      go_ret
      exact ⟨rfl, HJ.out⟩

end Go.Proofs.YtfgaohilpbocbaaGreatDoor.Sha
end
