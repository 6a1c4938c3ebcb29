/-
  A bench's clearBack, walked.
  Package solve's Solve, of equations of full rank; and all that it answers.
  The law SolveRanks, walked, out of what package solve answers.
  The law SolveTells, walked, out of what package solve answers: the board.
-/
import Derived.Test.YtacncbojplmcjaaMg19
import Derived.BigRegion
section
namespace Go.Proofs.Ytacncbojplmcjaa
open Go.ChangeShapes Go.WideShapes Go.ChangeAt Go.RowKit Go.Joins Go.Shelf
set_option linter.unusedVariables false

attribute [local go_sem] Oper.semAt_some

/-- The temporaries of a round. -/
def tmQ (Bb bb bx Px : Nat) (sv : Value) (ix x y : Nat) : Array Value :=
  #[.pointer (some ⟨Bb, 0, none⟩), .pointer (some ⟨bb, 0, none⟩), .int .i64 (ix : Int), .pointer (some ⟨Px, 0, none⟩), undef, undef, .pointer (some ⟨Bb, 0, none⟩), .pointer (some ⟨Bb, 0, none⟩), .pointer (some ⟨Bb, 2, none⟩), sv,
    .func (.func 37) #[] #[.pointer (some ⟨bx, 0, none⟩)], .int .i64 (ix : Int), .agg #[.int .i64 (x : Int), .int .i64 (y : Int)],
    undef, undef, undef, undef, undef, undef, undef, undef, undef, undef, undef, undef, undef, undef, undef, undef, undef, undef, undef, undef, undef, undef, undef, undef, undef, undef, undef, undef, undef, undef]

set_option maxRecDepth 1000000 in
set_option maxHeartbeats 8000000 in
theorem bcb_any (B m n : Nat) (w : World) (Bb g : Nat) (p0 : Pd) (dv : Value) (S : List (Nat × Nat)) (sv : Value) (hb : BnAt B w Bb g p0 dv S sv) (ok : Ok m n p0) (hlow : ∀ s ∈ S, s.1 < m ∧ s.2 < n) (hnd : (S.map Prod.fst).Nodup) (hm : m ≤ 1000) (hn : n ≤ 256) (hS : S.length ≤ 256) (hD : p0.2.length ≤ 200000) :
    Calls Try.prog 14 #[.pointer (some ⟨Bb, 0, none⟩)] w fun e w' => e = .returned (.tuple #[]) ∧ ∃ dv', BnAt B w' Bb g (clrB S S.length p0) dv' S sv ∧ Below B w w' := by
  refine (callsIn_wide (n := 5)).1 ?_
  obtain ⟨sa, sc, rfl⟩ := own_slice hb.step
  have c2 := hb.cells.2.2
  have hBsz := hb.size
  have hblt := hb.lt
  have hpv0 : PvAt w sa S := fun i hi => by
    obtain ⟨sg, e, _, _, h1, h2⟩ := hb.step.cells hi
    exact ⟨sg, e, h1, h2⟩
  have hB2 : Below w.heap.size w ((w.alloc (.cells #[.pointer (some ⟨Bb, 0, none⟩)] 46)).alloc (.cells #[.slice sa S.length sc] 49)) := ((Below.refl _ w).alloc (Nat.le_refl _) _).alloc (by simp) _
  have hbox : ((w.alloc (.cells #[.pointer (some ⟨Bb, 0, none⟩)] 46)).alloc (.cells #[.slice sa S.length sc] 49)).heap[w.heap.size]? = some (.cells #[.pointer (some ⟨Bb, 0, none⟩)] 46 (0, 0)) := (Below.heap_alloc _ _ _ (by simp)).trans (heap_alloc_last w _)
  have hbx : ((w.alloc (.cells #[.pointer (some ⟨Bb, 0, none⟩)] 46)).alloc (.cells #[.slice sa S.length sc] 49)).heap[w.heap.size + 1]? = some (.cells #[.slice sa S.length sc] 49 (0, 0)) := by
    have h := heap_alloc_last (w.alloc (.cells #[.pointer (some ⟨Bb, 0, none⟩)] 46)) (.cells #[.slice sa S.length sc] 49)
    rwa [World.size_alloc] at h
  have hsz2 : ((w.alloc (.cells #[.pointer (some ⟨Bb, 0, none⟩)] 46)).alloc (.cells #[.slice sa S.length sc] 49)).heap.size = w.heap.size + 2 := by simp
  have HI0 : Hid (CbI B m n w Bb g w.heap.size p0 S (.slice sa S.length sc) [] ((w.alloc (.cells #[.pointer (some ⟨Bb, 0, none⟩)] 46)).alloc (.cells #[.slice sa S.length sc] 49))) :=
    ⟨p0, dv, hb.below hB2, ok, by simp, fun _ => rfl, hbox, hbx, hB2.mono hBsz⟩
  refine callsIn_of_wp_marks Try.func14 rfl trivial ?_ rfl
  simp only [Try.ntmps14, List.size_toArray, List.length_cons, List.length_nil, Nat.reduceAdd, Nat.reduceSub, Array.replicate_succ, Array.replicate_zero, List.push_toArray, List.append_toArray, List.nil_append, List.cons_append]
  gi_wp2
  refine ⟨trivial, (back_in _ _ _ _ _).mono ?_⟩
  rintro e w' ⟨rfl, rfl⟩
  gi_wp2
  have c0 : ((w.alloc (.cells #[.pointer (some ⟨Bb, 0, none⟩)] 46)).alloc (.cells #[.slice sa S.length sc] 49)).cell? ⟨w.heap.size + 1, 0, none⟩ = some (.slice sa S.length sc) := by rw [cell_of_block hbx]; rfl
  have hpv2 : PvAt ((w.alloc (.cells #[.pointer (some ⟨Bb, 0, none⟩)] 46)).alloc (.cells #[.slice sa S.length sc] 49)) sa S := fun i hi => by
    obtain ⟨sg, e, h1, h2⟩ := hpv0 i hi
    exact ⟨sg, e, (hB2.cell (World.block_lt_of_cell? w _ h1)).trans h1, (hB2.cell (World.block_lt_of_cell? w _ h2)).trans h2⟩
  have hsab : ∀ p, sa = some p → p.block < w.heap.size := fun p hp => by
    have h := hb.step
    rcases h.2 with ⟨e1, _⟩ | ⟨sg, cap, cur, e1, _, e3, _⟩
    · injection e1 with e1; rw [e1] at hp; cases hp
    · injection e1 with e1; rw [e1] at hp; cases hp
      exact (Array.getElem?_eq_some_iff.1 e3).1
  have hsc : S.length = 0 ∨ (S.length ≤ sc ∧ sc ≤ maxLen) := by
    rcases hb.step.2 with ⟨_, e1⟩ | ⟨sg, cap, cur, e1, _, _, e4, e5, _⟩
    · exact .inl e1
    · injection e1 with _ _ e1; subst e1; exact .inr ⟨e4, e5⟩
  have HSC := Lib.hid hsc
  generalize hD0 : (w.alloc (.cells #[.pointer (some ⟨Bb, 0, none⟩)] 46)).alloc (.cells #[.slice sa S.length sc] 49) = D0 at *
  refine wpIn_rangeFunc_ownH (w0 := D0) rfl (by omega) (gf := 37) (lb := #[.pointer (some ⟨w.heap.size + 1, 0, none⟩)]) rfl trivial (enters_of Try.func37 (by kernel_rfl) rfl)
    (back_stops (5 - 1) (w.heap.size + 1) sa sc S (by omega) D0 c0 hpv2) (fun h k => h.trans k)
    (fun W l o o' hl ho hn _ => ⟨by simp, World.putObj_heap_other (by omega), fun p hp => World.putObj_heap_other (by have := hsab p hp; omega)⟩) (Below.refl _ _) (fun _ => rfl)
    (CbI B m n w Bb g w.heap.size p0 S (.slice sa S.length sc)) (fun _ _ _ => False) (CbI.own (by omega)) (fun _ _ _ _ _ hs _ _ => hs) HI0.out
    (fun x a' W => ∃ Px, PxAt W Px (S.getD (S.length - 1 - x) (0, 0)) ∧ a' = { tmps := tmQ Bb w.heap.size (w.heap.size + 1) Px (.slice sa S.length sc) (S.length - 1 - x) (S.getD (S.length - 1 - x) (0, 0)).1 (S.getD (S.length - 1 - x) (0, 0)).2, defers := [] })
    (fun x a' => fun s W W' row hs hg hr => by
      obtain ⟨Px, h2, h3⟩ := hs
      exact ⟨Px, PxAt.own Px _ _ s W W' row h2 hg hr, h3⟩) ?assign ?body ?done ?stop
  case assign =>
    intro l pre x W K hi hK
    have HI := Lib.hid hi
    have hWs := hi.elim fun p h => h.elim fun dk h => h.low.size
    have hWb := hi.elim fun p h => h.elim fun dk h => (Array.getElem?_eq_some_iff.1 h.box2).1
    clear hi
    unfold encB
    generalize S.length - 1 - x = ix at *
    generalize S.getD ix (0, 0) = sx at *
    gi_wp2
    exact hK _ _ ((KeepsOthers.alloc _ _).from _) ⟨by simp, Below.heap_alloc _ _ _ (by omega), fun p hp => Below.heap_alloc _ _ _ (by have := hsab p hp; omega)⟩
      ((CbI.own (C := D0.heap.size) (by omega)).alloc _ HI.out) ⟨W.heap.size, heap_alloc_last W _, rfl⟩
  case body =>
    rintro l pre x a' W hl ⟨r0, hr0⟩ ⟨p, dk, h⟩ ⟨Px, hPx, rfl⟩ hlen
    obtain ⟨ix, hix⟩ : ∃ ix, ix = S.length - 1 - x := ⟨_, rfl⟩
    rw [← hix] at hPx ⊢
    have hixl : ix < S.length := by omega
    rw [getP hixl] at hPx ⊢
    have HX : Hid (ix = S.length - 1 - x) := hix
    clear hix
    rcases HSC.out with hs0 | ⟨hsc1, hsc2⟩
    · omega
    unfold maxLen at hsc2
    obtain ⟨sg, hsa, _, _, _, _⟩ := h.bn.step.cells hixl
    subst hsa
    have b0 : W.cell? ⟨w.heap.size, 0, none⟩ = some (.pointer (some ⟨Bb, 0, none⟩)) := by rw [cell_of_block h.box]; rfl
    have b1 := h.bn.cells.2.2
    have hsz1 : (ix : Int) ≤ (sc : Int) := by omega
    have hsz2 : (sc : Int) ≤ 9223372036854775807 := by omega
    have HH := Lib.hid h
    have HPX := Lib.hid hPx
    have HCL : Hid (∀ j, j ≤ ix → Ok m n (clr S ix j p) ∧ (clr S ix j p).2.length ≤ p.2.length + j) := fun j hj => clr_ok hlow hnd h.ok hixl j hj
    have HLOW := Lib.hid hlow
    have hfew : p.2.length ≤ 300000 := by
      have h1 := h.few
      have h2 : pre.length * S.length ≤ 256 * 256 := Nat.mul_le_mul (by omega) hS
      omega
    have HB0 : Hid (BnAt B W Bb g (clr S ix 0 p) dk S (.slice (some ⟨sg, 0, none⟩) S.length sc)) := h.bn
    have HW0 : Hid (Fb T3 B W W) := Fb.refl _ _ _
    clear h hPx hb hbox hbx hpv0 hpv2 c0 c2 HI0 hB2 hsc hr0
    unfold tmQ
    gi_wp2
    clear b0 b1 hD0
    gi_loopw [20] (fun i wr => ∃ (j : Nat) (dv : Value), j ≤ ix ∧ i = .int .i64 j ∧ Hid (BnAt B wr Bb g (clr S ix j p) dv S (.slice (some ⟨sg, 0, none⟩) S.length sc)) ∧ Hid (Fb T3 B W wr)) (fun i _ => ix - (intOf i).toNat)
    case atStart => exact ⟨0, dk, by omega, rfl, HB0, HW0⟩
    case round =>
      obtain ⟨j, dj, hj, rfl, HB, HW⟩ := hrel
      clear HB0 HW0
      by_cases hlt : j < ix
      · have hjS : j < S.length := by omega
        obtain ⟨sg', hsg, hBs, hsl, s0, s1⟩ := HB.out.step.cells hjS
        obtain rfl : sg = sg' := by injection hsg with e; injection e
        have hjz : (j : Int) < (ix : Int) := by omega
        have HX2 : Hid (clr S ix (j + 1) p = addP (clr S ix j p) S[j].1 S[ix].1 (at2 (clr S ix j p).1 S[j].1 S[ix].2)) := by
          show _ = _
          show addP _ _ _ _ = _
          rw [getP hjS, getP hixl]
        have hq := HCL.out j hj
        have hqD : (clr S ix j p).2.length ≤ 1000000 := by omega
        have HOK := Lib.hid hq.1
        have l1 := (HLOW.out _ (List.getElem_mem hjS)).1
        have l2 := HLOW.out _ (List.getElem_mem hixl)
        have hpx := HW.out.block HPX.out (by decide)
        have hbox := HW.out.block HH.out.box (by decide)
        obtain ⟨xa, hxa⟩ : ∃ x, x = S[j].1 := ⟨_, rfl⟩
        obtain ⟨xb, hxb⟩ : ∃ x, x = S[j].2 := ⟨_, rfl⟩
        rw [← hxa] at s0 l1 HX2
        rw [← hxb] at s1
        have hpx0 : wr.cell? ⟨Px, 0, none⟩ = some (.int .i64 ((S[ix].1 : Nat) : Int)) := by rw [cell_of_block hpx]; rfl
        have hpx1 : wr.cell? ⟨Px, 1, none⟩ = some (.int .i64 ((S[ix].2 : Nat) : Int)) := by rw [cell_of_block hpx]; rfl
        have hpxl : Px < wr.heap.size := (Array.getElem?_eq_some_iff.1 hpx).1
        obtain ⟨yb, hyb⟩ : ∃ x, x = S[ix].1 := ⟨_, rfl⟩
        obtain ⟨zc, hzc⟩ : ∃ x, x = S[ix].2 := ⟨_, rfl⟩
        rw [← hyb] at hpx0 l2 HX2
        rw [← hzc] at hpx1 l2 HX2
        have hbb0 : wr.cell? ⟨w.heap.size, 0, none⟩ = some (.pointer (some ⟨Bb, 0, none⟩)) := by rw [cell_of_block hbox]; rfl
        have hbbl : w.heap.size < wr.heap.size := (Array.getElem?_eq_some_iff.1 hbox).1
        clear hq hpx hbox hsg hxa hxb hyb hzc hBs
        generalize clr S ix j p = q at *
        obtain ⟨W1, rfl⟩ : ∃ z, z = wr := ⟨_, rfl⟩
        have hBW1 := HB.out.size
        have HB1 : Hid (BnAt B (W1.alloc (.cells #[.int .i64 (xa : Int), .int .i64 (xb : Int)] 68)) Bb g q dj S (.slice (some ⟨sg, 0, none⟩) S.length sc)) := HB.out.below ((Below.refl _ _).alloc (Nat.le_refl _) _)
        have HW1 : Hid (Fb T3 B W (W1.alloc (.cells #[.int .i64 (xa : Int), .int .i64 (xb : Int)] 68))) := HW.out.alloc hBW1 _
        have HAL : Hid (Below W1.heap.size W1 (W1.alloc (.cells #[.int .i64 (xa : Int), .int .i64 (xb : Int)] 68)).drew) := ((Below.refl _ _).alloc (Nat.le_refl _) _).drew
        obtain ⟨wd, hwd⟩ : ∃ wd, wd = (W1.alloc (.cells #[.int .i64 (xa : Int), .int .i64 (xb : Int)] 68)).drew := ⟨_, rfl⟩
        rw [← hwd] at HAL
        have HBd : Hid (BnAt B wd Bb g q dj S (.slice (some ⟨sg, 0, none⟩) S.length sc)) := by rw [hwd]; exact HB1.out.drew
        have HWd : Hid (Fb T3 B W wd) := by rw [hwd]; exact HW1.out.drew
        have e0 : wd.cell? ⟨W1.heap.size, 0, none⟩ = some (.int .i64 (xa : Int)) := by rw [hwd]; show (W1.alloc _).cell? _ = _; simp
        have e2 : W1.heap.size < wd.heap.size := by rw [hwd]; show _ < (W1.alloc _).heap.size; simp
        have f0 := (HAL.out.cell (p := ⟨Px, 0, none⟩) hpxl).trans hpx0
        have f1 := (HAL.out.cell (p := ⟨Px, 1, none⟩) hpxl).trans hpx1
        have f2 := (HAL.out.cell (p := ⟨w.heap.size, 0, none⟩) hbbl).trans hbb0
        obtain ⟨rb, ro, rc, k1, k2, k3⟩ := HBd.out.num HOK.out l1 l2.2
        have q0 := HBd.out.cells.1
        rw [HOK.out.rect.rows] at q0
        have hblt2 := HBd.out.lt
        have hglt := HBd.out.grid.lt
        have hcl := HOK.out.rect.at2_lt xa zc
        have HAD := Lib.hid (badd_any B m n wd Bb g q dj S _ HBd.out HOK.out hm hn hqD xa yb (at2 q.1 xa zc) l1 l2.1 hcl)
        have d0 : ∀ u : KeepW wd (fun _ => False), u.v.cell? ⟨W1.heap.size, 0, none⟩ = some (.int .i64 (xa : Int)) := fun u => (u.cell e2 (fun h => h)).trans e0
        have d1 : ∀ u : KeepW wd (fun _ => False), u.v.cell? ⟨Px, 0, none⟩ = some (.int .i64 (yb : Int)) := fun u => (u.cell (by omega) (fun h => h)).trans f0
        have d2 : ∀ u : KeepW wd (fun _ => False), u.v.cell? ⟨Px, 1, none⟩ = some (.int .i64 (zc : Int)) := fun u => (u.cell (by omega) (fun h => h)).trans f1
        have d3 : ∀ u : KeepW wd (fun _ => False), u.v.cell? ⟨w.heap.size, 0, none⟩ = some (.pointer (some ⟨Bb, 0, none⟩)) := fun u => (u.cell (by omega) (fun h => h)).trans f2
        have cb : ∀ u : KeepW wd (fun _ => False), u.v.cell? ⟨Bb, 0, none⟩ = some (.slice (some ⟨g, 0, none⟩) m m) := fun u => (u.cell hblt2 (fun h => h)).trans q0
        have ce : ∀ u : KeepW wd (fun _ => False), u.v.cell? ⟨g, xa, none⟩ = some (.slice (some ⟨rb, ro, none⟩) n rc) := fun u => (u.cell hglt (fun h => h)).trans k1
        have cn : ∀ u : KeepW wd (fun _ => False), u.v.cell? ⟨rb, ro + zc, none⟩ = some (.int .u8 ((at2 q.1 xa zc : Nat) : Int)) := fun u => (u.cell k3 (fun h => h)).trans k2
        have haz : (xa : Int) < (m : Int) := by omega
        have hzz : (zc : Int) < (n : Int) := by omega
        clear HB1 HW1 HB HAL e0 e2 f0 f1 f2 k1 k2 k3 q0 hqD hcl hpx0 hpx1 hbb0 HOK
        generalize at2 q.1 xa zc = c at *
        gi_wp2
        refine growR_begin 17 (fun w' => ∃ u : KeepW wd (fun _ => False), w' = u.v) (by kernel_rfl) (by kernel_rfl) ?_
        rw [← hwd]
        clear hwd
        refine growK_take (by kernel_rfl) [0, 1, 2, 3, 4, 5, 6, 7, 8, 9, 10, 11, 12, 13, 14, 15, 16] 1 _ _ (by kernel_rfl) _ (keep_class (Fr.refl _ _)) ?_
        simp only [opsAt, List.getElem?_toArray, List.getElem?_cons_succ, List.getElem?_cons_zero]
        repeat (first | go_big_quiet_step (fail) | quiet_step (fail))
        refine wpQuiet_nil ?_
        clear cb ce cn d0 d1 d2 d3
        refine growK_last (by kernel_rfl) (by kernel_rfl) (fun K hK => ?_)
        simp only [stepOf, List.getElem?_toArray, List.getElem?_cons_succ, List.getElem?_cons_zero]
        go_simp
        go_at_call 23
        (with_reducible refine HAD.out.mono ?_)
        rintro e w5 ⟨rfl, dv5, hb5, hw5⟩
        refine hK.out _ _ ?_
        have HB5 : Hid (BnAt B w5 Bb g (clr S ix (j + 1) p) dv5 S (.slice (some ⟨sg, 0, none⟩) S.length sc)) := by rw [HX2.out]; exact hb5
        have HW5 := Lib.hid (HWd.out.trans hw5)
        clear hK K hb5 hw5 HAD HX2 HWd HW
        simp only [OnlyN]
        gi_wp2
        go_roundw
        case rel => exact ⟨j + 1, dv5, by omega, by go_num, HB5, HW5⟩
        case measure => simp [intOf]; omega
      · obtain rfl : j = ix := by omega
        gi_wp2
        have hk1 : KeepB (some ⟨sg, 0, none⟩) (w.heap.size + 1) W wr := HW.out.keepB HH.out.box2 HH.out.bn.step.kind
        refine ⟨HW.out.others, hk1, clr S j j p, dj, HB.out, (HCL.out j (Nat.le_refl _)).1, ?_, fun he => ?_, HW.out.block HH.out.box (by decide), HW.out.block HH.out.box2 (by decide), HH.out.low.trans HW.out.low⟩
        · have h1 := (HCL.out j (Nat.le_refl _)).2
          have h2 := HH.out.few
          rw [List.length_append, List.length_singleton, Nat.succ_mul]
          omega
        · rw [List.length_append, List.length_singleton, List.range_succ] at he
          obtain ⟨e1, e2⟩ := List.append_inj' he rfl
          have e3 : x = pre.length := by simpa using e2
          have e4 := HH.out.told e1
          rw [List.length_append, List.length_singleton]
          show _ = clr S (S.length - 1 - pre.length) (S.length - 1 - pre.length) (clrB S pre.length p0)
          rw [← e4, ← e3, ← HX.out]
  case done =>
    rintro D ys W hD rfl ⟨p, dk, h⟩ hK
    gi_wp2
    refine ⟨by simp, .inl ⟨_, _, rfl, run_takeDeferred hK, ?_⟩⟩
    have hpe := h.told (by simp)
    rw [List.length_range] at hpe
    have h2 := h.turned (grownBy_putObj' W D (.deferred none)) (fun r e => by cases e; exact ⟨by omega, _, hK, rfl⟩)
    rw [hpe] at h2
    exact ⟨_, results_none rfl _ _ _, rfl, dk, h2.bn, h2.low⟩
  case stop =>
    rintro D c pre W _ _ h _
    exact h.elim
end Go.Proofs.Ytacncbojplmcjaa
end

section
namespace Go.Proofs.Ytacncbojplmcjaa
open Go.ChangeShapes Go.WideShapes Go.ChangeAt Go.RowKit Go.Joins
set_option linter.unusedVariables false

set_option maxRecDepth 1000000 in
set_option maxHeartbeats 8000000 in
theorem solve_full11 (a : Option Addr) (cap : Nat) (es : Eqz) (n : Nat) (w : World) (hs : Er w a cap es) (hR : RightP es (n : Int)) (hr : rkE es n = n) :
    Calls Try.prog 8 #[.slice a es.length cap, .int .i64 (n : Int)] w (SolRet es n w) := by
  have hB0 : Below w.heap.size w (w.alloc (.cells #[.slice none 0 0, .slice none 0 0] 31)) := (Below.refl _ _).alloc (Nat.le_refl _) _
  have hE := eqsB_of hs hR
  have hn : n ≤ 256 := by have := hR.2.1; omega
  have hm := hR.2.2.1
  have HEL := Lib.hid (elim_good a cap es n hR _ (hs.below hB0))
  have HE := Lib.hid hE
  clear hs hR hB0 hE
  go_enter Try.func8, Try.ntmps8
  go_wp2_with fail
  (with_reducible refine HEL.out.mono ?_)
  rintro e w1 ⟨B, Bb, g, p, S, dv, sv, rfl, hB, hb, hel, b1⟩
  obtain ⟨sa, sc, rfl⟩ := own_slice hb.step
  have c2 := hb.cells.2.2
  obtain ⟨⟨L, hps⟩, hrk⟩ := hel
  have hS : S.length = n := by omega
  have hge : ((S.length : Int) < (n : Int)) = False := by simp; omega
  have hgeb : decide ((S.length : Int) < (n : Int)) = false := by simp; omega
  have hfew := hps.few
  have HCB := Lib.hid (bcb_any B es.length n w1 Bb g p dv S _ hb hps.ok hps.st.low hps.st.nd hm hn (by omega) (by omega))
  have hcb := (CbSt.start hps).outer HE.out hS S.length (Nat.le_refl _)
  rw [Nat.sub_self] at hcb
  have HST := Lib.hid hcb.1.st
  have HSAY := Lib.hid (hcb.1.says HE.out hS)
  have HBB := Lib.hid b1
  have HBZ := Lib.hid hB
  have HNL : Hid ((whN S S.length).length = n) := by show _ = _; rw [whN_len]; exact hS
  rw [hS] at c2
  clear HEL hb hps hrk hcb b1 hr hfew hge hgeb
  have hHS := Lib.hid hS
  clear hS hB
  go_wp2_with fail
  (with_reducible refine HCB.out.mono ?_)
  rintro e w2 ⟨rfl, dv2, hb2, bB⟩
  have hb12 := HBB.out.trans (bB.mono HBZ.out)
  have hBlt := hb2.size
  have hRB : w.heap.size < B := by have h := HBZ.out; simp at h; omega
  obtain ⟨da, dc, rfl⟩ := own_slice hb2.deed
  obtain ⟨wd, hwd⟩ : ∃ wd, wd = w2.drew := ⟨_, rfl⟩
  have HBd : Hid (BnAt B wd Bb g (clrB S S.length p) (.slice da (clrB S S.length p).2.length dc) S (.slice sa S.length sc)) := by rw [hwd]; exact hb2.drew
  have HB12 : Hid (Below (w.alloc (.cells #[.slice none 0 0, .slice none 0 0] 31)).heap.size (w.alloc (.cells #[.slice none 0 0, .slice none 0 0] 31)) wd) := by rw [hwd]; exact hb12.drew
  have HWH := Lib.hid (bwhere_any B es.length n wd Bb g _ _ S _ HBd.out HST.out hHS.out hn)
  have hbl := HBd.out.lt
  have q1 := HBd.out.cells.2.1
  have hbR : Bb ≠ w.heap.size := by have := HBd.out.lo; omega
  have k0 : ∀ u : KeepW wd (fun b => b = w.heap.size), u.v.cell? ⟨Bb, 1, none⟩ = some (.slice da (clrB S S.length p).2.length dc) := fun u => (u.cell hbl hbR).trans q1
  obtain ⟨D, hD⟩ : ∃ D, D = (clrB S S.length p).2 := ⟨_, rfl⟩
  have HOD : Hid (OwnD B wd (.slice da D.length dc) D) := by rw [hD]; exact HBd.out.deed
  rw [← hD] at HSAY k0
  have hsz : B ≤ wd.heap.size := HBd.out.size
  clear hb2 bB hb12 HCB HBB HBZ HBd HST q1 hD hBlt
  go_wp2_with fail
  refine growK_begin 8 (fun w' => ∃ u : KeepW wd (fun b => b = w.heap.size), w' = u.v) (by kernel_rfl) ?_
  rw [← hwd]
  clear hwd
  refine growK_take (by kernel_rfl) [0, 1, 2, 3, 4] 4 _ _ (by kernel_rfl) _ (keep_class (Fr.refl _ _)) ?_
  simp only [opsAt, List.getElem?_toArray, List.getElem?_cons_succ, List.getElem?_cons_zero]
  repeat (first | go_big_quiet_step (fail) | quiet_step (fail))
  refine wpQuiet_nil ?_
  refine growK_one 5 (by kernel_rfl) (fun K hK => ?_)
  simp only [stepOf, List.getElem?_toArray, List.getElem?_cons_succ, List.getElem?_cons_zero]
  go_simp
  go_at_call 15
  (with_reducible refine HWH.out.mono ?_)
  rintro e w3 ⟨T, rfl, hT, hrow, b3⟩
  have F3 : Hid (Fr (fun b => b = w.heap.size) wd w3) := Fr.of_below b3
  refine hK.out _ _ (keep_class F3.out) ?_
  clear hK K
  refine growK_one 6 (by kernel_rfl) (fun K hK => ?_)
  simp only [stepOf, List.getElem?_toArray, List.getElem?_cons_succ, List.getElem?_cons_zero]
  go_simp
  refine hK.out _ _ (keep_class F3.out) ?_
  clear hK K
  obtain ⟨p0, p1, z0, z1, j0, j1, j2⟩ := res_two (.slice da D.length dc) (.slice (some ⟨T, 0, none⟩) n n) (HB12.out.trans (b3.mono HB12.out.size))
  have HJ0 := Lib.hid j0
  have HJ1 := Lib.hid j1
  have HJ2 := Lib.hid j2
  have HROW := Lib.hid hrow
  have HB3 := Lib.hid b3
  have hTR : T ≠ w.heap.size := by omega
  clear j0 j1 j2 hrow b3 k0
  refine growK_one 7 (by kernel_rfl) (fun K hK => ?_)
  simp only [stepOf, List.getElem?_toArray, List.getElem?_cons_succ, List.getElem?_cons_zero]
  go_simp
  refine hK.out _ _ (keep_class ((F3.out.set (p := ⟨w.heap.size, 0, none⟩) (fun _ => rfl) _).set (p := ⟨w.heap.size, 1, none⟩) (fun _ => rfl) _)) ?_
  clear hK K
  refine growK_last (by kernel_rfl) (by kernel_rfl) (fun K hK => ?_)
  simp only [stepOf, List.getElem?_toArray, List.getElem?_cons_succ, List.getElem?_cons_zero]
  go_simp
  refine hK.out _ _ ?_
  clear hK K
  have HOW : Hid (OwnD B ((w3.setCell ⟨w.heap.size, 0, none⟩ (.slice da D.length dc)).setCell ⟨w.heap.size, 1, none⟩ (.slice (some ⟨T, 0, none⟩) n n)) (.slice da D.length dc) D) := own_kept HOD.out fun b hb => by
    have h1 := own_at HOD.out hb
    rw [Below.heap_setCell _ _ _ _ (by show b ≠ w.heap.size; omega), Below.heap_setCell _ _ _ _ (by show b ≠ w.heap.size; omega)]
    exact HB3.out.block b h1.2.1
  have HRW : Hid (Row ((w3.setCell ⟨w.heap.size, 0, none⟩ (.slice da D.length dc)).setCell ⟨w.heap.size, 1, none⟩ (.slice (some ⟨T, 0, none⟩) n n)) T 3 n n (lV (whN S S.length))) := (HROW.out.other (C := w.heap.size) hTR).other (C := w.heap.size) hTR
  clear p0 p1 z0 z1 HROW HOD
  go_wp2_with fail
  have q0 := HJ0.out
  have q1 := HJ1.out
  generalize ((w3.setCell ⟨w.heap.size, 0, none⟩ (.slice da D.length dc)).setCell ⟨w.heap.size, 1, none⟩ (.slice (some ⟨T, 0, none⟩) n n)) = W2 at *
  refine bodyPost_ret (v := .tuple #[.agg #[.slice da D.length dc, .slice (some ⟨T, 0, none⟩) n n], .int .i64 0]) ?_ rfl ?_
  · rw [results_cell_tmp rfl]
    go_simp
  · refine ⟨da, dc, D, some ⟨T, 0, none⟩, n, whN S S.length, by rw [HNL.out], HOW.out.dr, ?_, HSAY.out, HJ2.out⟩
    have hl : (whN S S.length).length = n := HNL.out
    refine ⟨fun x hx => ?_, by rw [List.length_map, hl]; exact Nat.le_refl _, by unfold maxLen; omega, fun e => (by cases e), .inr ⟨T, 0, rfl, HRW.out.lt, fun i hi => ?_⟩⟩
    · obtain ⟨y, hy, rfl⟩ := List.mem_map.1 hx
      have := HSAY.out.slot y hy
      omega
    · rw [List.length_map] at hi
      rw [Nat.zero_add, HRW.out.cell i (by omega)]
      unfold lV
      rw [getD_get hi]
      simp
theorem solC : SolC := ⟨fun a cap es n w hn hs => srank_any a cap es n w hn hs, fun a cap es n w hn hs hR => solve_bad11 a cap es n w hn hs hR, fun a cap es n w hs hR hr => solve_low11 a cap es n w hs hR hr, fun a cap es n w hs hR hr => solve_full11 a cap es n w hs hR hr⟩
end Go.Proofs.Ytacncbojplmcjaa
end

section
namespace Go.Proofs.Ytacncbojplmcjaa
open Go.ChangeShapes Go.WideShapes Go.ChangeAt Go.RowKit Go.Joins
set_option linter.unusedVariables false

set_option maxRecDepth 1000000 in
set_option maxHeartbeats 4000000 in
theorem ranks_out (HCC : SolC) (a : Option Addr) (cap : Nat) (es : Eqz) (n : Int) (hn : -9223372036854775808 ≤ n ∧ n ≤ 9223372036854775807) (w : World) (hs : Er w a cap es) (hF : ¬ FewP es ∨ 80 < n) :
    Calls Try.prog 3 #[.slice a es.length cap, .int .i64 n] w (TrueAnd w) := by
  have HS := Lib.hid hs
  have HAW := Lib.hid (awake11_any HCC)
  have HFW := Lib.hid (fun w h => few_any a cap es w h)
  clear hs HCC
  by_cases hf : FewP es
  · have hd : decide (FewP es) = true := decide_eq_true hf
    have d1 : decide ((80 : Int) < n) = true := decide_eq_true (hF.resolve_left (fun h => h hf))
    rw [hd] at HFW
    clear hF
    go_enter Try.func3, Try.ntmps3
    go_wp2_with fail
    refine (HAW.out w).mono ?_
    rintro e w1 ⟨rfl, b1⟩
    have HB1 := Lib.hid b1
    clear b1
    go_wp2_with fail
    refine (HFW.out w1 (HS.out.below HB1.out)).mono ?_
    rintro e w' ⟨rfl, rfl⟩
    go_wp2_with fail
    refine (HAW.out w1).mono ?_
    rintro e w2 ⟨rfl, b2⟩
    have HB2 := Lib.hid (HB1.out.trans (b2.mono HB1.out.size))
    clear b2
    go_wp2_with fail
    go_ret
    exact ⟨rfl, HB2.out⟩
  · have hd : decide (FewP es) = false := decide_eq_false hf
    rw [hd] at HFW
    clear hF
    go_enter Try.func3, Try.ntmps3
    go_wp2_with fail
    refine (HAW.out w).mono ?_
    rintro e w1 ⟨rfl, b1⟩
    have HB1 := Lib.hid b1
    clear b1
    go_wp2_with fail
    refine (HFW.out w1 (HS.out.below HB1.out)).mono ?_
    rintro e w' ⟨rfl, rfl⟩
    go_wp2_with fail
    refine (HAW.out w1).mono ?_
    rintro e w2 ⟨rfl, b2⟩
    have HB2 := Lib.hid (HB1.out.trans (b2.mono HB1.out.size))
    clear b2
    go_wp2_with fail
    go_ret
    exact ⟨rfl, HB2.out⟩

set_option maxRecDepth 1000000 in
set_option maxHeartbeats 4000000 in
theorem ranks_bad (HCC : SolC) (a : Option Addr) (cap : Nat) (es : Eqz) (n : Int) (hn : -9223372036854775808 ≤ n ∧ n ≤ 9223372036854775807) (w : World) (hs : Er w a cap es) (hf : FewP es) (hn2 : n ≤ 80) (hR : ¬ RightP es n) :
    Calls Try.prog 3 #[.slice a es.length cap, .int .i64 n] w (TrueAnd w) := by
  have HS := Lib.hid hs
  have HAW := Lib.hid (awake11_any HCC)
  have HFW := Lib.hid (fun w h => few_any a cap es w h)
  have HRK := Lib.hid (fun w h => HCC.rank a cap es n w hn h)
  have HSV := Lib.hid (fun w h => HCC.bad a cap es n w hn h hR)
  have HRD := Lib.hid (fun w h => refRight_any a cap es n hn w h)
  rw [show decide (FewP es) = true from decide_eq_true hf] at HFW
  rw [show decide (RightP es n) = false from decide_eq_false hR] at HRD
  simp only [if_neg hR] at HRK
  have d1 : decide ((80 : Int) < n) = false := decide_eq_false (by omega)
  clear hs hf hR HCC
  go_enter Try.func3, Try.ntmps3
  go_wp2_with fail
  refine (HAW.out w).mono ?_
  rintro e w1 ⟨rfl, b1⟩
  have HB1 := Lib.hid b1
  clear b1
  go_wp2_with fail
  refine (HFW.out w1 (HS.out.below HB1.out)).mono ?_
  rintro e w' ⟨rfl, rfl⟩
  go_wp2_with fail
  refine (HRK.out w1 (HS.out.below HB1.out)).mono ?_
  rintro e w2 ⟨rfl, b2⟩
  have HB2 := Lib.hid (HB1.out.trans (b2.mono HB1.out.size))
  clear b2
  go_wp2_with fail
  refine (HSV.out w2 (HS.out.below HB2.out)).mono ?_
  rintro e w3 ⟨da, dc, wa, wc, rfl, b3⟩
  have HB3 := Lib.hid ((HB2.out.trans (b3.mono HB2.out.size)).alloc (Nat.le_trans HB2.out.size b3.size) (.cells #[.slice da 0 dc, .slice wa 0 wc] 31))
  clear b3
  go_wp2_with fail
  refine (HRD.out _ (HS.out.below HB3.out)).mono ?_
  rintro e w4 ⟨rfl, b4⟩
  have HB4 := Lib.hid (HB3.out.trans (b4.mono HB3.out.size))
  have c1 : w4.cell? ⟨w3.heap.size, 1, none⟩ = some (.slice wa 0 wc) := (b4.cell (p := ⟨w3.heap.size, 1, none⟩) (by simp)).trans (by simp)
  clear b4
  go_wp2_with fail
  go_ret
  exact ⟨rfl, HB4.out⟩

set_option maxRecDepth 1000000 in
set_option maxHeartbeats 8000000 in
theorem ranks_good (HCC : SolC) (a : Option Addr) (cap : Nat) (es : Eqz) (n : Nat) (w : World) (hs : Er w a cap es) (hf : FewP es) (hn2 : n ≤ 80) (hR : RightP es (n : Int)) :
    Calls Try.prog 3 #[.slice a es.length cap, .int .i64 (n : Int)] w (TrueAnd w) := by
  have HS := Lib.hid hs
  have HAW := Lib.hid (awake11_any HCC)
  have HFW := Lib.hid (fun w h => few_any a cap es w h)
  have HRK := Lib.hid (fun w h => HCC.rank a cap es n w (by omega) h)
  have HRD := Lib.hid (fun w h => refRight_any a cap es n (by omega) w h)
  have hm := hR.2.2.1
  have HDN := Lib.hid (fun w h => dense_any a cap es n (by omega) w h hm (fun l hl c hc => ⟨((hR.2.2.2 l hl).1 c hc).1, ((hR.2.2.2 l hl).1 c hc).2.1⟩))
  have HRF : Hid (∀ (a' : Option Addr) (c' : Nat) (w : World), Rs w.heap.size w a' c' (rowsOf n es es.length) → Calls Try.prog 10 #[.slice a' (rowsOf n es es.length).length c'] w fun e w' => e = .returned (.int .i64 ((rkE es n : Nat) : Int)) ∧ Below w.heap.size w w') := fun a' c' w h =>
    refRank_any _ a' c' _ w (Nat.le_refl _) h (by rw [rowsOf_len (Nat.le_refl _)]; exact hm) (fun x hx => by
      unfold rowsOf at hx
      obtain ⟨l, _, rfl⟩ := List.mem_map.1 hx
      have : (rowOf n l).length = n := rowK_len _ _ _
      omega)
  have hle := rkE_le es n
  rw [show decide (FewP es) = true from decide_eq_true hf] at HFW
  rw [show decide (RightP es (n : Int)) = true from decide_eq_true hR] at HRD
  simp only [if_pos hR, Int.toNat_natCast] at HRK
  have d1 : decide ((80 : Int) < (n : Int)) = false := decide_eq_false (by omega)
  have hrl : (rowsOf n es es.length).length = es.length := rowsOf_len (Nat.le_refl _)
  by_cases hlow : rkE es n < n
  · have HSV := Lib.hid (fun w h => HCC.low a cap es n w h hR hlow)
    generalize rkE es n = k at *
    generalize rowsOf n es es.length = ls at *
    clear hs hf hR HCC
    have d2 : decide ((k : Int) < (n : Int)) = true := decide_eq_true (by omega)
    go_enter Try.func3, Try.ntmps3
    go_wp2_with fail
    refine (HAW.out w).mono ?_
    rintro e w1 ⟨rfl, b1⟩
    have HB1 := Lib.hid b1
    clear b1
    go_wp2_with fail
    refine (HFW.out w1 (HS.out.below HB1.out)).mono ?_
    rintro e w' ⟨rfl, rfl⟩
    go_wp2_with fail
    refine (HRK.out w1 (HS.out.below HB1.out)).mono ?_
    rintro e w2 ⟨rfl, b2⟩
    have HB2 := Lib.hid (HB1.out.trans (b2.mono HB1.out.size))
    clear b2
    go_wp2_with fail
    refine (HSV.out w2 (HS.out.below HB2.out)).mono ?_
    rintro e w3 ⟨da, dc, wa, wc, rfl, b3⟩
    have HB3 := Lib.hid ((HB2.out.trans (b3.mono HB2.out.size)).alloc (Nat.le_trans HB2.out.size b3.size) (.cells #[.slice da 0 dc, .slice wa 0 wc] 31))
    clear b3
    go_wp2_with fail
    refine (HRD.out _ (HS.out.below HB3.out)).mono ?_
    rintro e w4 ⟨rfl, b4⟩
    have HB4 := Lib.hid (HB3.out.trans (b4.mono HB3.out.size))
    have HX4 := Lib.hid b4
    clear b4
    go_wp2_with fail
    refine (HDN.out w4 (HS.out.below HB4.out)).mono ?_
    rintro e w5 ⟨v, rfl, ho, b5⟩
    obtain ⟨a5, c5, rfl, hrs⟩ := ho.rs
    have HRS := Lib.hid hrs
    have HB5 := Lib.hid (HB4.out.trans (b5.mono HB4.out.size))
    have HX5 := Lib.hid (HX4.out.trans (b5.mono HX4.out.size))
    clear b5 ho hrs
    go_wp2_with fail
    rw [hrl] at HRF
    refine (HRF.out a5 c5 w5 HRS.out).mono ?_
    rintro e w6 ⟨rfl, b6⟩
    have HB6 := Lib.hid (HB5.out.trans (b6.mono HB5.out.size))
    have HX6 := Lib.hid (HX5.out.trans (b6.mono HX5.out.size))
    have c0 : w6.cell? ⟨w3.heap.size, 0, none⟩ = some (.slice da 0 dc) := (HX6.out.cell (p := ⟨w3.heap.size, 0, none⟩) (by simp)).trans (by simp)
    have c1 : w6.cell? ⟨w3.heap.size, 1, none⟩ = some (.slice wa 0 wc) := (HX6.out.cell (p := ⟨w3.heap.size, 1, none⟩) (by simp)).trans (by simp)
    clear b6
    go_wp2_with fail
    go_ret
    exact ⟨by simp, HB6.out⟩
  · have hk : rkE es n = n := by omega
    have HSV := Lib.hid (fun w h => HCC.full a cap es n w h hR hk)
    rw [hk] at HRK HRF
    generalize rowsOf n es es.length = ls at *
    clear hs hf hR HCC hlow hle hk
    have d2 : decide ((n : Int) < (n : Int)) = false := decide_eq_false (by omega)
    go_enter Try.func3, Try.ntmps3
    go_wp2_with fail
    refine (HAW.out w).mono ?_
    rintro e w1 ⟨rfl, b1⟩
    have HB1 := Lib.hid b1
    clear b1
    go_wp2_with fail
    refine (HFW.out w1 (HS.out.below HB1.out)).mono ?_
    rintro e w' ⟨rfl, rfl⟩
    go_wp2_with fail
    refine (HRK.out w1 (HS.out.below HB1.out)).mono ?_
    rintro e w2 ⟨rfl, b2⟩
    have HB2 := Lib.hid (HB1.out.trans (b2.mono HB1.out.size))
    clear b2
    go_wp2_with fail
    refine (HSV.out w2 (HS.out.below HB2.out)).mono ?_
    rintro e w3 ⟨da, dc, D, wa, wc, Wh, rfl, hdr, hwr, hsy, b3⟩
    have hwl := hsy.len
    have HB3 := Lib.hid ((HB2.out.trans (b3.mono HB2.out.size)).alloc (Nat.le_trans HB2.out.size b3.size) (.cells #[.slice da D.length dc, .slice wa Wh.length wc] 31))
    clear b3 hdr hwr hsy
    go_wp2_with fail
    rw [hwl] at HB3
    refine (HRD.out _ (HS.out.below HB3.out)).mono ?_
    rintro e w4 ⟨rfl, b4⟩
    have HB4 := Lib.hid (HB3.out.trans (b4.mono HB3.out.size))
    have HX4 := Lib.hid b4
    clear b4
    go_wp2_with fail
    refine (HDN.out w4 (HS.out.below HB4.out)).mono ?_
    rintro e w5 ⟨v, rfl, ho, b5⟩
    obtain ⟨a5, c5, rfl, hrs⟩ := ho.rs
    have HRS := Lib.hid hrs
    have HB5 := Lib.hid (HB4.out.trans (b5.mono HB4.out.size))
    have HX5 := Lib.hid (HX4.out.trans (b5.mono HX4.out.size))
    clear b5 ho hrs
    go_wp2_with fail
    rw [hrl] at HRF
    refine (HRF.out a5 c5 w5 HRS.out).mono ?_
    rintro e w6 ⟨rfl, b6⟩
    have HB6 := Lib.hid (HB5.out.trans (b6.mono HB5.out.size))
    have HX6 := Lib.hid (HX5.out.trans (b6.mono HX5.out.size))
    have c1 : w6.cell? ⟨w3.heap.size, 1, none⟩ = some (.slice wa n wc) := (HX6.out.cell (p := ⟨w3.heap.size, 1, none⟩) (by simp)).trans (by simp)
    clear b6
    go_wp2_with fail
    go_ret
    exact ⟨by simp, HB6.out⟩

theorem solveRanks_walk (HCC : SolC) (a : Option Addr) (cap : Nat) (es : Eqz) (n : Int) (hn : -9223372036854775808 ≤ n ∧ n ≤ 9223372036854775807) (w : World) (hs : Er w a cap es) :
    Calls Try.prog 3 #[.slice a es.length cap, .int .i64 n] w (TrueAnd w) := by
  by_cases hF : ¬ FewP es ∨ 80 < n
  · exact ranks_out HCC a cap es n hn w hs hF
  · have hf : FewP es := Classical.byContradiction fun h => hF (.inl h)
    have hn2 : n ≤ 80 := by
      have : ¬ 80 < n := fun h => hF (.inr h)
      omega
    by_cases hR : RightP es n
    · obtain ⟨N, rfl⟩ : ∃ N : Nat, n = (N : Int) := ⟨n.toNat, by have := hR.1; omega⟩
      exact ranks_good HCC a cap es N w hs hf (by omega) hR
    · exact ranks_bad HCC a cap es n hn w hs hf hn2 hR
end Go.Proofs.Ytacncbojplmcjaa
end

section
namespace Go.Proofs.Ytacncbojplmcjaa
open Go.ChangeShapes Go.WideShapes Go.ChangeAt Go.RowKit Go.Joins
set_option linter.unusedVariables false

/-- Worlds that have all that W has. -/
structure Has (W : World) where
  v : World
  h : Fr (fun _ => False) W v
instance has_some (W : World) : Nonempty (Has W) := ⟨⟨W, Fr.refl _ _⟩⟩
theorem has_class {W w : World} (h : Fr (fun _ => False) W w) : ∃ p : Has W, w = p.v := ⟨⟨w, h⟩, rfl⟩
theorem Has.cell {W : World} (p : Has W) {b i : Nat} {v : Value} (h : W.cell? ⟨b, i, none⟩ = some v) : p.v.cell? ⟨b, i, none⟩ = some v :=
  (World.cell?_of_block (a := ⟨b, i, none⟩) (p.h.block b (World.block_lt_of_cell? W _ h) (fun h => h))).trans h

/-- The board when the first i equations are summed up. -/
def bI (es : Eqz) (u : List Nat) (i : Nat) : List Nat := (es.take i).map (valOf u) ++ List.replicate (es.length - i) 0
theorem bI_len {es : Eqz} {u : List Nat} {i : Nat} (h : i ≤ es.length) : (bI es u i).length = es.length := by unfold bI; simp; omega
theorem bI_next {es : Eqz} {u : List Nat} {i : Nat} (h : i < es.length) : bI es u (i + 1) = (bI es u i).set i (valOf u es[i]) := by
  unfold bI
  have hl : ((es.take i).map (valOf u)).length = i := by simp; omega
  rw [List.set_append_right _ _ (by omega), hl, Nat.sub_self, List.take_succ_eq_append_getElem h, List.map_append, List.append_assoc]
  congr 1
  obtain ⟨k, hk⟩ : ∃ k, es.length - i = k + 1 := ⟨es.length - i - 1, by omega⟩
  rw [hk, show es.length - (i + 1) = k by omega, List.replicate_succ]
  rfl
theorem bI_all (es : Eqz) (u : List Nat) : bI es u es.length = valsOf es u := by unfold bI valsOf; simp
theorem bI_at {es : Eqz} {u : List Nat} {i : Nat} (h : i < es.length) : (bI es u i).set i 0 = bI es u i := by
  unfold bI
  have hl : ((es.take i).map (valOf u)).length = i := by simp; omega
  rw [List.set_append_right _ _ (by omega), hl, Nat.sub_self]
  congr 1
  obtain ⟨k, hk⟩ : ∃ k, es.length - i = k + 1 := ⟨es.length - i - 1, by omega⟩
  rw [hk, List.replicate_succ]
  rfl
theorem valK_byte {u : List Nat} {l : Cz} (hl : ∀ c ∈ l, c.2 < 256) : ∀ {k : Nat}, valK u l k < 256 := fun {k} => by
  induction k with
  | zero => unfold valK; simp
  | succ k ih =>
    by_cases hk : k < l.length
    · rw [valK_next hk]
      exact xor_lt ih (mulN_lt _ (hl _ (List.getElem_mem hk)))
    · unfold valK at ih ⊢
      rw [List.take_of_length_le (by omega)] at ih ⊢
      exact ih
theorem runD_next {D : Dz} {b : List Nat} {k : Nat} (h : k < D.length) : runD (D.take (k + 1)) b = deedTo (runD (D.take k) b) D[k] := by
  unfold runD
  rw [List.take_succ_eq_append_getElem h, List.foldl_append]
  rfl
theorem deedTo_len (b : List Nat) (d : Nat × Nat × Nat) : (deedTo b d).length = b.length := by unfold deedTo; rw [List.length_set]
theorem runD_len (D : Dz) : ∀ b : List Nat, (runD D b).length = b.length := by
  induction D with
  | nil => intro b; rfl
  | cons d D ih => intro b; unfold runD at ih ⊢; rw [List.foldl_cons, ih, deedTo_len]
theorem getD_byte {b : List Nat} (h : IsByte b) (i : Nat) : b.getD i 0 < 256 := by
  by_cases hi : i < b.length
  · rw [getD_get hi]; exact h _ (List.getElem_mem hi)
  · rw [getD_high (by omega)]; omega
theorem deedTo_byte {b : List Nat} (h : IsByte b) (d : Nat × Nat × Nat) : IsByte (deedTo b d) := by
  intro x hx
  unfold deedTo at hx
  rcases List.mem_or_eq_of_mem_set hx with h1 | h1
  · exact h x h1
  · rw [h1]
    split
    · exact mulN_lt _ (getD_byte h _)
    · exact xor_lt (getD_byte h _) (mulN_lt _ (getD_byte h _))
theorem runD_byte (D : Dz) : ∀ b : List Nat, IsByte b → IsByte (runD D b) := by
  induction D with
  | nil => intro b h; exact h
  | cons d D ih => intro b h; unfold runD at ih ⊢; rw [List.foldl_cons]; exact ih _ (deedTo_byte h d)
theorem valsOf_byte {es : Eqz} (u : List Nat) (he : ∀ l ∈ es, ∀ c ∈ l, c.2 < 256) : IsByte (valsOf es u) := fun x hx => by
  obtain ⟨l, hl, rfl⟩ := List.mem_map.1 hx
  exact valK_byte (he l hl)

/-- A board in block T; all that was there stays. -/
structure BoardAt (W wr : World) (T : Nat) (b : List Nat) : Prop where
  row : Row wr T 5 b.length b.length (vOf b)
  fr : Fr (fun x => x = T) W wr
theorem BoardAt.cell {W wr : World} {T : Nat} {b : List Nat} (h : BoardAt W wr T b) {i : Nat} (hi : i < b.length) : wr.cell? ⟨T, i, none⟩ = some (.int .u8 ((b.getD i 0 : Nat) : Int)) := by
  rw [h.row.cell i hi, vOf_eq b i hi, getD_get hi]
theorem BoardAt.set {W wr : World} {T : Nat} {b : List Nat} (h : BoardAt W wr T b) {i : Nat} (hi : i < b.length) (v : Nat) : BoardAt W (wr.setCell ⟨T, i, none⟩ (.int .u8 (v : Int))) T (b.set i v) := by
  refine ⟨?_, h.fr.set (p := ⟨T, i, none⟩) (fun _ => rfl) _⟩
  rw [List.length_set]
  refine (h.row.upd i hi _).mono (Nat.le_refl _) fun j hj => ?_
  have hjs : j < (b.set i v).length := by rw [List.length_set]; exact hj
  rw [vOf_eq _ _ hjs]
  by_cases e : j = i
  · subst e; simp
  · rw [if_neg e, vOf_eq b j hj, List.getElem_set_ne (fun h => e h.symm)]
theorem BoardAt.later {W wr w' : World} {T : Nat} {b : List Nat} (h : BoardAt W wr T b) (k : Below wr.heap.size wr w') : BoardAt W w' T b :=
  ⟨h.row.below k h.row.lt, h.fr.later k⟩
theorem BoardAt.old {W wr : World} {T : Nat} {bd : List Nat} (h : BoardAt W wr T bd) {p : Addr} (hp : p.block < W.heap.size) (hne : p.block ≠ T) : wr.cell? p = W.cell? p :=
  World.cell?_of_block (h.fr.block p.block hp hne)
theorem BoardAt.drewN {W wr : World} {T : Nat} {bd : List Nat} (h : BoardAt W wr T bd) (n : Nat) : BoardAt W (wr.drewN n) T bd :=
  h.later ⟨rfl, rfl, rfl, Nat.le_refl _, fun _ _ => rfl⟩
theorem BoardAt.drew {W wr : World} {T : Nat} {bd : List Nat} (h : BoardAt W wr T bd) : BoardAt W wr.drew T bd := h.later ((Below.refl _ _).drew)
end Go.Proofs.Ytacncbojplmcjaa
end
