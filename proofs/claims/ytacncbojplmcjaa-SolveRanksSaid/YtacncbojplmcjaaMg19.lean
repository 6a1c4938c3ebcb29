/-
  Package solve's eliminate and Rank.
  A bench's where.
  slices.Backward over pivots: what it hands its loop's body.
  A statement that leaves its order open, within a round of a range over a function: what is shown outside of a round (GrowK) serves within one. Nothing of the program's dump is named here.
  A bench's clearBack: a range over a function whose body has a loop.
-/
import Derived.Test.YtacncbojplmcjaaMg18
import Derived.RangeFuncNested
import Derived.RangeFuncBound
import Derived.RangeFuncCalls
import Derived.RangeFuncLeaves
import Derived.Shelf.Abstract
import Derived.Shelf.RegionOpen
import Derived.WalkKit
import Derived.OwnWalkIn
import Derived.TacticsInMore
import Derived.LoopNIn
import Derived.LoopIn
import Derived.OrdersIn
import Derived.TacticsIn
section
namespace Go.Proofs.Ytacncbojplmcjaa
open Go.ChangeShapes Go.WideShapes Go.ChangeAt Go.RowKit Go.Joins
set_option linter.unusedVariables false

theorem eqsB_of {w : World} {a : Option Addr} {cap : Nat} {es : Eqz} {n : Nat} (hs : Er w a cap es) (hR : RightP es (n : Int)) : EqsB es n := by
  refine ⟨hR.2.2.2, fun l hl c hc => ?_⟩
  obtain ⟨i, hi, rfl⟩ := List.getElem_of_mem hl
  obtain ⟨b, off, _, _, a', c', _, hcr⟩ := er_one hs hi
  exact (hcr.rng c hc).2.2
theorem OwnV.pvIn {B C : Nat} {w : World} {a : Option Addr} {c : Nat} {P : List (Nat × Nat)} (h : OwnV B w (.slice a P.length c) P) (hC : w.heap.size ≤ C) : PvIn C w a P := fun i hi => by
  obtain ⟨g, e, _, h1, h2, h3⟩ := h.cells hi
  exact ⟨g, e, by omega, h2, h3⟩
theorem PvIn.below {B : Nat} {w w' : World} {a : Option Addr} {P : List (Nat × Nat)} (h : PvIn B w a P) (k : Below B w w') : PvIn B w' a P := fun i hi => by
  obtain ⟨g, e, h1, h2, h3⟩ := h i hi
  exact ⟨g, e, h1, (k.cell (p := ⟨g, i * 2, none⟩) h1).trans h2, (k.cell (p := ⟨g, i * 2 + 1, none⟩) h1).trans h3⟩

/-- What eliminate gives back. -/
def ElPost (es : Eqz) (n : Nat) (w : World) (e : Ending) (w' : World) : Prop :=
  ∃ B Bb g p S dv sv, e = .returned (.tuple #[.pointer (some ⟨Bb, 0, none⟩), .int .i64 0]) ∧ w.heap.size ≤ B ∧ BnAt B w' Bb g p dv S sv ∧ Elim es n p S ∧ Below w.heap.size w w'

set_option maxRecDepth 1000000 in
set_option maxHeartbeats 8000000 in
theorem elim_bad (a : Option Addr) (cap : Nat) (es : Eqz) (n : Int) (hn : -9223372036854775808 ≤ n ∧ n ≤ 9223372036854775807) (hR : ¬ RightP es n) (w : World) (hs : Er w a cap es) :
    Calls Try.prog 13 #[.slice a es.length cap, .int .i64 n] w fun e w' => e = .returned (.tuple #[.pointer none, .int .i64 1]) ∧ Below w.heap.size w w' := by
  have HP := Lib.hid (peel_bad a cap es n hn hR w hs)
  clear hs hR
  go_enter Try.func13, Try.ntmps13
  go_wp2_with fail
  (with_reducible refine HP.out.mono ?_)
  rintro e w1 ⟨rfl, b1⟩
  have HB1 : Hid (Below w.heap.size w (w1.alloc (.cells #[.slice none 0 0, .slice none 0 0, .slice none 0 0] 59))) := b1.alloc b1.size _
  clear b1 HP
  go_wp2_with fail
  go_ret2
  exact ⟨rfl, HB1.out⟩

set_option maxRecDepth 1000000 in
set_option maxHeartbeats 8000000 in
theorem elim_good (a : Option Addr) (cap : Nat) (es : Eqz) (n : Nat) (hR : RightP es (n : Int)) (w : World) (hs : Er w a cap es) :
    Calls Try.prog 13 #[.slice a es.length cap, .int .i64 (n : Int)] w (ElPost es n w) := by
  have HE := Lib.hid (eqsB_of hs hR)
  have HS := Lib.hid hs
  have hn : n ≤ 256 := by have := hR.2.1; omega
  have hm := hR.2.2.1
  have HP := Lib.hid (peel_good a cap es n hR w hs)
  have hr : ∀ l ∈ es, ∀ c ∈ l, 0 ≤ c.1 ∧ c.1 < (n : Int) := fun l hl c hc => ⟨((hR.2.2.2 l hl).1 c hc).1, ((hR.2.2.2 l hl).1 c hc).2.1⟩
  have HRG := Lib.hid hr
  clear hs hR hr
  go_enter Try.func13, Try.ntmps13
  go_wp2_with fail
  (with_reducible refine HP.out.mono ?_)
  rintro e w1 ⟨pv, hv, lv, P, H, Lf, rfl, opv, ohv, olv, hpl, b1⟩
  obtain ⟨pa, pc, rfl⟩ := own_slice opv
  obtain ⟨ha, hc, rfl⟩ := own_slice ohv
  obtain ⟨la, lc, rfl⟩ := own_slice olv
  have HPL := Lib.hid hpl
  have HPV := Lib.hid (OwnV.pvIn (C := w1.heap.size) opv (Nat.le_refl _))
  have hb2 : Below w.heap.size w (w1.alloc (.cells #[.slice pa P.length pc, .slice ha H.length hc, .slice la Lf.length lc] 59)) := b1.alloc b1.size _
  have HB2 := Lib.hid hb2
  have e4 : (w1.alloc (.cells #[.slice pa P.length pc, .slice ha H.length hc, .slice la Lf.length lc] 59)).heap[w1.heap.size]? = some (.cells #[.slice pa P.length pc, .slice ha H.length hc, .slice la Lf.length lc] 59 (0, 0)) := heap_alloc_last w1 _
  have HE4 := Lib.hid e4
  have HS2 := Lib.hid (HS.out.below hb2)
  have HL12 : Hid (Below w1.heap.size w1 (w1.alloc (.cells #[.slice pa P.length pc, .slice ha H.length hc, .slice la Lf.length lc] 59))) := (Below.refl _ _).alloc (Nat.le_refl _) _
  have hsz12 : w1.heap.size < (w1.alloc (.cells #[.slice pa P.length pc, .slice ha H.length hc, .slice la Lf.length lc] 59)).heap.size := by simp
  obtain ⟨w2, hw2⟩ : ∃ w2, w2 = w1.alloc (.cells #[.slice pa P.length pc, .slice ha H.length hc, .slice la Lf.length lc] 59) := ⟨_, rfl⟩
  have HSR : Hid (Calls Try.prog 19 #[.slice a es.length cap, .int .i64 (n : Int)] w2 fun e w' => ∃ g, e = .returned (.slice (some ⟨g, 0, none⟩) es.length es.length) ∧ Grid w2.heap.size w' g (R0 es n) ∧ Below w2.heap.size w2 w') := srows_any a cap es n hn w2 (by rw [hw2]; exact HS2.out) hm HRG.out
  have hLn : Lf.length ≤ n := nodup_le n (List.Nodup.sublist (List.sublist_append_right _ _) hpl.nd) fun x hx => (hpl.mem x).1 (List.mem_append_right _ hx)
  have HW2 := Lib.hid hw2
  clear b1 opv ohv olv hpl hb2 e4 HP hw2 HS HS2 HRG
  go_wp2_with fail
  rw [← HW2.out] at HB2 HE4 HL12 hsz12 ⊢
  clear HW2
  (with_reducible refine HSR.out.mono ?_)
  rintro e w3 ⟨g, rfl, hg, b3⟩
  have hszr : w2.heap.size ≤ w3.heap.size := b3.size
  have hrows := HE.out.rect.rows
  have HBN : Hid (BnAt w2.heap.size (w3.alloc (.cells #[.slice (some ⟨g, 0, none⟩) es.length es.length, .slice none 0 0, .slice none 0 0] 51)) w3.heap.size g (R0 es n, []) (.slice none 0 0) [] (.slice none 0 0)) := by
    refine ⟨hszr, ?_, hg.below ((Below.refl _ _).alloc (Nat.le_refl _) _), OwnD.nil _ _, OwnV.nil _ _⟩
    show _ = some (Obj.cells #[.slice (some ⟨g, 0, none⟩) (R0 es n).length (R0 es n).length, .slice none 0 0, .slice none 0 0] 51 (0, 0))
    rw [hrows]
    exact heap_alloc_last w3 _
  have HB4 : Hid (Below w2.heap.size w2 (w3.alloc (.cells #[.slice (some ⟨g, 0, none⟩) es.length es.length, .slice none 0 0, .slice none 0 0] 51))) := b3.alloc hszr _
  obtain ⟨w4, hw4⟩ : ∃ w4, w4 = w3.alloc (.cells #[.slice (some ⟨g, 0, none⟩) es.length es.length, .slice none 0 0, .slice none 0 0] 51) := ⟨_, rfl⟩
  rw [← hw4] at HBN HB4
  have h44 : w4.heap[w1.heap.size]? = some (.cells #[.slice pa P.length pc, .slice ha H.length hc, .slice la Lf.length lc] 59 (0, 0)) := (HB4.out.block _ hsz12).trans HE4.out
  have h43 : w3.heap[w1.heap.size]? = some (.cells #[.slice pa P.length pc, .slice ha H.length hc, .slice la Lf.length lc] 59 (0, 0)) := (b3.block _ hsz12).trans HE4.out
  have f0 : w3.cell? ⟨w1.heap.size, 0, none⟩ = some (.slice pa P.length pc) := by rw [cell_of_block h43]; rfl
  have hsz13 : w1.heap.size < w3.heap.size := by omega
  have hpv4 : PvIn w2.heap.size w4 pa P := fun i hi => by
    obtain ⟨pg, e1, e2, e3, e5⟩ := HPV.out i hi
    have k := HL12.out.trans (HB4.out.mono (by omega))
    exact ⟨pg, e1, by omega, (k.cell (p := ⟨pg, i * 2, none⟩) e2).trans e3, (k.cell (p := ⟨pg, i * 2 + 1, none⟩) e2).trans e5⟩
  have HPI := Lib.hid (bpiv_any w2.heap.size es n P H Lf HE.out HPL.out hm hn w4 w3.heap.size g (.slice none 0 0) (.slice none 0 0) HBN.out pa pc hpv4)
  have HW4 := Lib.hid hw4
  have H44 := Lib.hid h44
  clear hg b3 hpv4 HSR HE4 h43 h44 hw4 HBN HPV HL12 hrows
  have hLz : (Lf.length : Int) ≤ (n : Int) := by omega
  go_wp2_with fail
  rw [← HW4.out]
  clear HW4 f0
  (with_reducible refine HPI.out.mono ?_)
  rintro e w5 ⟨rfl, dv5, sv5, hb5, hw5⟩
  have h54 := (hw5.low.block _ hsz12).trans H44.out
  have f25 : w5.cell? ⟨w1.heap.size, 2, none⟩ = some (.slice la Lf.length lc) := by rw [cell_of_block h54]; rfl
  have HOT := Lib.hid (boths_any w2.heap.size es n P Lf HE.out hm hn w5 w3.heap.size g _ dv5 sv5 hb5 (OtSt.start (pv_all HE.out hn HPL.out P.length (Nat.le_refl _))) (List.Nodup.sublist (List.sublist_append_right _ _) HPL.out.nd) (fun x hx => (HPL.out.mem x).1 (List.mem_append_right _ hx)) HPL.out.left)
  have HW5 := Lib.hid (HB2.out.trans ((HB4.out.trans hw5.low).mono HB2.out.size))
  have hBw := HB2.out.size
  clear hb5 hw5 h54 H44 HPI HPL HB4 HB2 HE
  go_wp2_with fail
  (with_reducible refine HOT.out.mono ?_)
  rintro e w6 ⟨rfl, p, S, dv6, sv6, hb6, hw6, hel⟩
  have HB6 := Lib.hid hb6
  have HW6 := Lib.hid (HW5.out.trans (hw6.low.mono hBw))
  have HEL := Lib.hid hel
  clear hb6 hw6 hel HOT HW5 f25
  go_wp2_with fail
  go_ret2
  exact ⟨w2.heap.size, w3.heap.size, g, p, S, dv6, sv6, rfl, hBw, HB6.out, HEL.out, HW6.out⟩

set_option maxRecDepth 1000000 in
set_option maxHeartbeats 8000000 in
theorem srank_any (a : Option Addr) (cap : Nat) (es : Eqz) (n : Int) (w : World) (hn : -9223372036854775808 ≤ n ∧ n ≤ 9223372036854775807) (hs : Er w a cap es) :
    Calls Try.prog 7 #[.slice a es.length cap, .int .i64 n] w fun e w' => e = .returned (.tuple #[.int .i64 ((if RightP es n then rkE es n.toNat else 0 : Nat) : Int), .int .i64 ((if RightP es n then 0 else 1 : Nat) : Int)]) ∧ Below w.heap.size w w' := by
  by_cases hR : RightP es n
  · rw [if_pos hR, if_pos hR]
    obtain ⟨m, rfl⟩ : ∃ m : Nat, n = (m : Int) := ⟨n.toNat, by have := hR.1; omega⟩
    have HEL := Lib.hid (elim_good a cap es m hR w hs)
    have hm : m ≤ 256 := by have := hR.2.1; omega
    rw [Int.toNat_natCast]
    clear hs hR
    go_enter Try.func7, Try.ntmps7
    go_wp2_with fail
    (with_reducible refine HEL.out.mono ?_)
    rintro e w1 ⟨B, Bb, g, p, S, dv, sv, rfl, hB, hb, hel, b1⟩
    obtain ⟨sa, sc, rfl⟩ := own_slice hb.step
    have c2 := hb.cells.2.2
    have HRK : Hid (rkE es m = S.length) := hel.2
    have HB1 := Lib.hid b1
    clear HEL hb hel b1
    go_wp2_with fail
    go_ret2
    exact ⟨by rw [HRK.out]; rfl, HB1.out⟩
  · rw [if_neg hR, if_neg hR]
    have HEL := Lib.hid (elim_bad a cap es n hn hR w hs)
    clear hs hR
    go_enter Try.func7, Try.ntmps7
    go_wp2_with fail
    (with_reducible refine HEL.out.mono ?_)
    rintro e w1 ⟨rfl, b1⟩
    have HB1 := Lib.hid b1
    clear HEL b1
    go_wp2_with fail
    go_ret2
    exact ⟨rfl, HB1.out⟩

/-- Where a schedule is put for the caller. -/
theorem res_two {w w1 : World} (u v : Value) (b1 : Below (w.alloc (.cells #[.slice none 0 0, .slice none 0 0] 31)).heap.size (w.alloc (.cells #[.slice none 0 0, .slice none 0 0] 31)) w1) :
    w1.cell? ⟨w.heap.size, 0, none⟩ = some (.slice none 0 0) ∧ w1.cell? ⟨w.heap.size, 1, none⟩ = some (.slice none 0 0) ∧ w1.frozen? ⟨w.heap.size, 0, none⟩ = false ∧ w1.frozen? ⟨w.heap.size, 1, none⟩ = false ∧
    ((w1.setCell ⟨w.heap.size, 0, none⟩ u).setCell ⟨w.heap.size, 1, none⟩ v).cell? ⟨w.heap.size, 0, none⟩ = some u ∧ ((w1.setCell ⟨w.heap.size, 0, none⟩ u).setCell ⟨w.heap.size, 1, none⟩ v).cell? ⟨w.heap.size, 1, none⟩ = some v ∧
    Below w.heap.size w ((w1.setCell ⟨w.heap.size, 0, none⟩ u).setCell ⟨w.heap.size, 1, none⟩ v) := by
  have hr : w1.heap[w.heap.size]? = some (.cells #[.slice none 0 0, .slice none 0 0] 31 (0, 0)) := (b1.block _ (by simp)).trans (heap_alloc_last w _)
  have p0 : w1.cell? ⟨w.heap.size, 0, none⟩ = some (.slice none 0 0) := by rw [cell_of_block hr]; rfl
  have p1 : w1.cell? ⟨w.heap.size, 1, none⟩ = some (.slice none 0 0) := by rw [cell_of_block hr]; rfl
  have hB0 : Below w.heap.size w (w.alloc (.cells #[.slice none 0 0, .slice none 0 0] 31)) := (Below.refl _ _).alloc (Nat.le_refl _) _
  refine ⟨p0, p1, unfrozen_of_block hr 0, unfrozen_of_block hr 1, ?_, ?_, ?_⟩
  · rw [cell_off (by omega)]; exact cell_now p0
  · exact cell_now ((cell_off (by omega)).trans p1)
  · exact ((hB0.trans (b1.mono hB0.size)).setCell (p := ⟨w.heap.size, 0, none⟩) (Nat.le_refl _) _).setCell (p := ⟨w.heap.size, 1, none⟩) (Nat.le_refl _) _

set_option maxRecDepth 1000000 in
set_option maxHeartbeats 8000000 in
theorem solve_bad11 (a : Option Addr) (cap : Nat) (es : Eqz) (n : Int) (w : World) (hn : -9223372036854775808 ≤ n ∧ n ≤ 9223372036854775807) (hs : Er w a cap es) (hR : ¬ RightP es n) :
    Calls Try.prog 8 #[.slice a es.length cap, .int .i64 n] w (SolNone 1 w) := by
  have hB0 : Below w.heap.size w (w.alloc (.cells #[.slice none 0 0, .slice none 0 0] 31)) := (Below.refl _ _).alloc (Nat.le_refl _) _
  have HEL := Lib.hid (elim_bad a cap es n hn hR _ (hs.below hB0))
  clear hs hR hB0
  go_enter Try.func8, Try.ntmps8
  go_wp2_with fail
  (with_reducible refine HEL.out.mono ?_)
  rintro e w1 ⟨rfl, b1⟩
  obtain ⟨p0, p1, z0, z1, k0, k1, k2⟩ := res_two (.slice none 0 0) (.slice none 0 0) b1
  have HK2 := Lib.hid k2
  have HK0 := Lib.hid k0
  have HK1 := Lib.hid k1
  clear b1 HEL k0 k1 k2
  go_wp2_with fail
  have q0 := HK0.out
  have q1 := HK1.out
  generalize ((w1.setCell ⟨w.heap.size, 0, none⟩ (.slice none 0 0)).setCell ⟨w.heap.size, 1, none⟩ (.slice none 0 0)) = W2 at *
  clear p0 p1 z0 z1
  refine bodyPost_ret (v := .tuple #[.agg #[.slice none 0 0, .slice none 0 0], .int .i64 1]) ?_ rfl ?_
  · rw [results_cell_tmp rfl]
    go_simp
  · exact ⟨none, 0, none, 0, rfl, HK2.out⟩

set_option maxRecDepth 1000000 in
set_option maxHeartbeats 8000000 in
theorem solve_low11 (a : Option Addr) (cap : Nat) (es : Eqz) (n : Nat) (w : World) (hs : Er w a cap es) (hR : RightP es (n : Int)) (hr : rkE es n < n) :
    Calls Try.prog 8 #[.slice a es.length cap, .int .i64 (n : Int)] w (SolNone 9 w) := by
  have hB0 : Below w.heap.size w (w.alloc (.cells #[.slice none 0 0, .slice none 0 0] 31)) := (Below.refl _ _).alloc (Nat.le_refl _) _
  have HEL := Lib.hid (elim_good a cap es n hR _ (hs.below hB0))
  clear hs hR hB0
  go_enter Try.func8, Try.ntmps8
  go_wp2_with fail
  (with_reducible refine HEL.out.mono ?_)
  rintro e w1 ⟨B, Bb, g, p, S, dv, sv, rfl, hB, hb, hel, b1⟩
  obtain ⟨sa, sc, rfl⟩ := own_slice hb.step
  have c2 := hb.cells.2.2
  have hlt : (S.length : Int) < (n : Int) := by have := hel.2; omega
  have hltb : decide ((S.length : Int) < (n : Int)) = true := decide_eq_true hlt
  obtain ⟨p0, p1, z0, z1, k0, k1, k2⟩ := res_two (.slice none 0 0) (.slice none 0 0) b1
  have HK2 := Lib.hid k2
  have HK0 := Lib.hid k0
  have HK1 := Lib.hid k1
  clear b1 HEL k0 k1 k2 hb hel hr
  go_wp2_with fail
  have q0 := HK0.out
  have q1 := HK1.out
  generalize ((w1.setCell ⟨w.heap.size, 0, none⟩ (.slice none 0 0)).setCell ⟨w.heap.size, 1, none⟩ (.slice none 0 0)) = W2 at *
  clear p0 p1 z0 z1 c2
  refine bodyPost_ret (v := .tuple #[.agg #[.slice none 0 0, .slice none 0 0], .int .i64 9]) ?_ rfl ?_
  · rw [results_cell_tmp rfl]
    go_simp
  · exact ⟨none, 0, none, 0, rfl, HK2.out⟩
end Go.Proofs.Ytacncbojplmcjaa
end

section
namespace Go.Proofs.Ytacncbojplmcjaa
open Go.ChangeShapes Go.WideShapes Go.ChangeAt Go.RowKit Go.Joins
set_option linter.unusedVariables false

set_option maxRecDepth 1000000 in
set_option maxHeartbeats 8000000 in
theorem bwhere_any (B m n : Nat) (w : World) (Bb g : Nat) (p : Pd) (dv : Value) (S : List (Nat × Nat)) (sv : Value) (hb : BnAt B w Bb g p dv S sv) (hs : Stp m n p.1 S) (hS : S.length = n) (hn : n ≤ 256) :
    Calls Try.prog 15 #[.pointer (some ⟨Bb, 0, none⟩)] w fun e w' => ∃ W, e = .returned (.slice (some ⟨W, 0, none⟩) n n) ∧ w.heap.size ≤ W ∧ Row w' W 3 n n (lV (whN S S.length)) ∧ Below w.heap.size w w' := by
  obtain ⟨sa, sc, rfl⟩ := own_slice hb.step
  have c2 := hb.cells.2.2
  have hblt := hb.lt
  have hmk := make_ints n (by omega)
  have HLOW := Lib.hid hs.low
  have HR0 : Hid (Row (w.alloc (.cells (rowArr n (nV fun _ => 0)) 3)) w.heap.size 3 n n (lV (whN S 0))) := by
    refine Row.mono (Row.new_whole w _ 3 (nV fun _ => 0) _ _ rfl rfl) (Nat.le_refl _) fun j hj => ?_
    simp [nV, lV, whN, List.getD, hS, hj]
  have HB0 : Hid (Below w.heap.size w (w.alloc (.cells (rowArr n (nV fun _ => 0)) 3))) := (Below.refl _ _).alloc (Nat.le_refl _) _
  have hcells : ∀ k (h : k < S.length), ∃ sg, sa = some ⟨sg, 0, none⟩ ∧ sg < w.heap.size ∧ w.cell? ⟨sg, k * 2, none⟩ = some (.int .i64 ((S[k].1 : Nat) : Int)) ∧ w.cell? ⟨sg, k * 2 + 1, none⟩ = some (.int .i64 ((S[k].2 : Nat) : Int)) := fun k hk => by
    obtain ⟨sg, h1, _, h2, h3, h4⟩ := hb.step.cells hk
    exact ⟨sg, h1, h2, h3, h4⟩
  have HCE := Lib.hid hcells
  rw [hS] at c2
  clear hb hs hcells
  go_enter Try.func15, Try.ntmps15
  go_wp2_with fail
  clear hmk c2
  obtain ⟨W, hW⟩ : ∃ W, W = w.heap.size := ⟨_, rfl⟩
  have hWB : w.heap.size ≤ W := by omega
  obtain ⟨W0, hW0⟩ : ∃ W0, W0 = w.alloc (.cells (rowArr n (nV fun _ => 0)) 3) := ⟨_, rfl⟩
  rw [← hW0] at HR0 HB0 ⊢
  have HR0' : Hid (Row W0 W 3 n n (lV (whN S 0))) := by rw [hW]; exact HR0
  rw [← hW]
  clear hW0 HR0 hW
  go_loopw [17] (fun i wr => ∃ k : Nat, k ≤ n ∧ i = .int .i64 k ∧ Hid (Row wr W 3 n n (lV (whN S k))) ∧ Hid (Below w.heap.size w wr)) (fun i _ => n - (intOf i).toNat)
  case atStart => exact ⟨0, by omega, rfl, HR0', HB0⟩
  case round =>
    obtain ⟨k, hk, rfl, HR, HB⟩ := hrel
    clear HR0' HB0
    by_cases hlt : k < n
    · obtain ⟨sg, rfl, hsl, s0, s1⟩ := HCE.out k (by omega)
      have t0 := (HB.out.cell (p := ⟨sg, k * 2, none⟩) hsl).trans s0
      have t1 := (HB.out.cell (p := ⟨sg, k * 2 + 1, none⟩) hsl).trans s1
      have hlow := (HLOW.out _ (List.getElem_mem (show k < S.length by omega))).2
      have hkz : (k : Int) < (n : Int) := by omega
      have HX : Hid (whN S (k + 1) = (whN S k).set (S[k]'(by omega)).2 (S[k]'(by omega)).1) := by
        show _ = _
        show (whN S k).set _ _ = _
        rw [getP (show k < S.length by omega)]
      obtain ⟨s, hs⟩ : ∃ s, s = S[k]'(by omega) := ⟨_, rfl⟩
      rw [← hs] at t0 t1 hlow HX
      clear hs s0 s1
      obtain ⟨x, y⟩ := s
      simp only at t0 t1 hlow HX
      have hyz : (y : Int) < (n : Int) := by omega
      obtain ⟨W3, rfl⟩ : ∃ z, z = wr := ⟨_, rfl⟩
      obtain ⟨u0, c0⟩ := HR.out.has y hlow
      have z0 := HR.out.loose y
      have hwl := HR.out.lt
      have HR3 : Hid (Row ((W3.setCell ⟨W, y, none⟩ (.int .i64 (x : Int))).alloc (.cells #[.int .i64 (x : Int), .int .i64 (y : Int)] 68)) W 3 n n (lV (whN S (k + 1)))) := by
        rw [HX.out]
        refine (HR.out.set_eq y hlow (.int .i64 (x : Int)) fun j hj => ?_).alloc _
        unfold lV
        rw [getD_setN (by rw [whN_len]; omega)]
        split <;> rfl
      have HB3 : Hid (Below w.heap.size w ((W3.setCell ⟨W, y, none⟩ (.int .i64 (x : Int))).alloc (.cells #[.int .i64 (x : Int), .int .i64 (y : Int)] 68))) := (HB.out.setCell (p := ⟨W, y, none⟩) hWB _).alloc (by have := HB.out.size; simp; omega) _
      clear HR HB HX
      go_wp2_with fail
      go_roundw
      case rel => exact ⟨k + 1, by omega, by go_num, HR3, HB3⟩
      case measure => simp [intOf]; omega
    · obtain rfl : k = n := by omega
      have HR4 : Hid (Row wr W 3 k k (lV (whN S S.length))) := by rw [hS]; exact HR
      go_wp2_with fail
      go_ret
      exact ⟨W, rfl, hWB, HR4.out, HB.out⟩
end Go.Proofs.Ytacncbojplmcjaa
end

section
namespace Go.Proofs.Ytacncbojplmcjaa
open Go.ChangeShapes Go.WideShapes Go.ChangeAt Go.RowKit Go.Joins Go.Shelf
set_option linter.unusedVariables false

attribute [local go_sem] Oper.semAt_some

/-- What the t-th round is handed. -/
def encB (S : List (Nat × Nat)) (t : Nat) : Array Value := #[.int .i64 ((S.length - 1 - t : Nat) : Int), .agg #[.int .i64 (((S.getD (S.length - 1 - t) (0, 0)).1 : Nat) : Int), .int .i64 (((S.getD (S.length - 1 - t) (0, 0)).2 : Nat) : Int)]]
/-- The slice, as it lies below block C. -/
def PvAt (W : World) (sa : Option Addr) (S : List (Nat × Nat)) : Prop := ∀ i, (h : i < S.length) → ∃ g, sa = some ⟨g, 0, none⟩ ∧ W.cell? ⟨g, i * 2, none⟩ = some (.int .i64 ((S[i].1 : Nat) : Int)) ∧ W.cell? ⟨g, i * 2 + 1, none⟩ = some (.int .i64 ((S[i].2 : Nat) : Int))
/-- What a round keeps that goes on: the slice's block and the box. -/
def KeepB (sa : Option Addr) (bx : Nat) (W W' : World) : Prop := W.heap.size ≤ W'.heap.size ∧ W'.heap[bx]? = W.heap[bx]? ∧ ∀ p, sa = some p → W'.heap[p.block]? = W.heap[p.block]?
theorem KeepB.refl (sa : Option Addr) (bx : Nat) (W : World) : KeepB sa bx W W := ⟨Nat.le_refl _, rfl, fun _ _ => rfl⟩
theorem KeepB.trans {sa : Option Addr} {bx : Nat} {A B C : World} (h : KeepB sa bx A B) (k : KeepB sa bx B C) : KeepB sa bx A C := ⟨Nat.le_trans h.1 k.1, k.2.1.trans h.2.1, fun p hp => (k.2.2 p hp).trans (h.2.2 p hp)⟩
theorem PvAt.keep {W W' : World} {sa : Option Addr} {bx : Nat} {S : List (Nat × Nat)} (h : PvAt W sa S) (k : KeepB sa bx W W') : PvAt W' sa S := fun i hi => by
  obtain ⟨g, e, h1, h2⟩ := h i hi
  have e2 := k.2.2 _ e
  exact ⟨g, e, (World.cell?_of_block (a := ⟨g, i * 2, none⟩) e2).trans h1, (World.cell?_of_block (a := ⟨g, i * 2 + 1, none⟩) e2).trans h2⟩

set_option maxRecDepth 100000 in
set_option maxHeartbeats 2000000 in
theorem back1_in (n : Nat) (l bx : Nat) (sa : Option Addr) (sc : Nat) (S : List (Nat × Nat)) (hS : S.length ≤ 1000) (J Jx : List Nat → World → Prop)
    (hY : ∀ pre x W, J pre W → pre.length < S.length → YieldAt Fence.wide (n - 1) Try.prog l (encB S x) W fun e W' =>
      (e = .returned (.bool true) ∧ J (pre ++ [x]) W' ∧ KeepB sa bx W W') ∨ (e = .returned (.bool false) ∧ Jx (pre ++ [x]) W'))
    (W : World) (hbx : W.cell? ⟨bx, 0, none⟩ = some (.slice sa S.length sc)) (hc : PvAt W sa S) (h0 : J [] W) :
    CallsIn Fence.wide n Try.prog 37 #[.func (.yield l) #[] #[], .pointer (some ⟨bx, 0, none⟩)] W fun e W' => (∃ v, e = .returned v) ∧
      ((∃ ys, ys = List.range S.length ∧ J ys W') ∨ (∃ pre, (∃ k, k ≤ S.length ∧ pre = List.range k) ∧ Jx pre W')) := by
  refine callsIn_of_wp Try.func37 rfl trivial ?_ rfl
  simp only [Try.ntmps37, List.size_toArray, List.length_cons, List.length_nil, Nat.reduceAdd, Nat.reduceSub, Array.replicate_succ, Array.replicate_zero, List.push_toArray, List.append_toArray, List.nil_append, List.cons_append]
  obtain ⟨m, hm⟩ : ∃ m, m = S.length := ⟨_, rfl⟩
  have hm2 : S.length ≤ m := by omega
  have hm3 : m ≤ S.length := by omega
  rw [← hm] at hbx
  have HM := Lib.hid hm
  clear hm
  gi_wp2
  gi_loopw [3] (fun i wr => ∃ k : Nat, k ≤ m ∧ i = .int .i64 ((m : Int) - 1 - (k : Int)) ∧ J (List.range k) wr ∧ KeepB sa bx W wr)
    (fun i _ => ((intOf i) + 1).toNat)
  case atStart => exact ⟨0, Nat.zero_le _, by simp, h0, KeepB.refl _ _ _⟩
  case round =>
    obtain ⟨k, hk, rfl, hJs, hnx⟩ := hrel
    have hbxr : wr.cell? ⟨bx, 0, none⟩ = some (.slice sa m sc) := (World.cell?_of_block (a := ⟨bx, 0, none⟩) hnx.2.1).trans hbx
    by_cases hlt : k < m
    · obtain ⟨ix, hix⟩ : ∃ ix, ix = S.length - 1 - k := ⟨_, rfl⟩
      have hixl : ix < S.length := by omega
      have hz : (m : Int) - 1 - (k : Int) = (ix : Int) := by omega
      have hz2 : (ix : Int) - 1 = (m : Int) - 1 - ((k + 1 : Nat) : Int) := by omega
      rw [hz]
      obtain ⟨pg, hsa, s0, s1⟩ := (hc.keep hnx) ix hixl
      subst hsa
      obtain ⟨fn, tmps, assign, body, hy, hR⟩ := hY _ k wr hJs (by rw [List.length_range]; omega)
      have e : encB S k = #[.int .i64 (ix : Int), .agg #[.int .i64 ((S[ix].1 : Nat) : Int), .int .i64 ((S[ix].2 : Nat) : Int)]] := by
        unfold encB
        rw [← hix, getP hixl]
      rw [e] at hy
      clear e hix hc
      generalize S[ix].1 = x at *
      generalize S[ix].2 = y at *
      have hixz : (ix : Int) < (m : Int) := by omega
      have hge : (0 : Int) ≤ (ix : Int) := by omega
      have hixm : ix ≤ 1000 := by omega
      have HZ2 := Lib.hid hz2
      clear hz hz2
      gi_wp2
      refine ⟨fun h => (by cases h), hR.mono ?_⟩
      rintro e W3 (⟨rfl, hJ3, hk3⟩ | ⟨rfl, hJx3⟩)
      · gi_wp2
        go_roundw
        case rel => exact ⟨k + 1, by omega, by rw [← HZ2.out], by rw [List.range_succ]; exact hJ3, hnx.trans hk3⟩
        case measure => simp [intOf]
      · gi_wp2
        refine bodyPost_ret (results_none rfl _ _ _) rfl ?_
        exact ⟨⟨_, rfl⟩, .inr ⟨_, ⟨k + 1, by omega, (List.range_succ).symm⟩, hJx3⟩⟩
    · obtain rfl : k = m := by omega
      have hz : (k : Int) - 1 - (k : Int) = -1 := by omega
      rw [hz]
      gi_wp2
      go_end0
      exact ⟨⟨_, rfl⟩, .inl ⟨_, rfl, by rw [← HM.out]; exact hJs⟩⟩

set_option maxHeartbeats 1000000 in
theorem back_in (n : Nat) (a : Option Addr) (len cap : Nat) (w : World) :
    CallsIn Fence.wide n Try.prog 22 #[.slice a len cap] w fun e w' => e = .returned (.func (.func 37) #[] #[.pointer (some ⟨w.heap.size, 0, none⟩)]) ∧ w' = w.alloc (.cells #[.slice a len cap] 49) := by
  refine callsIn_of_wp Try.func22 rfl trivial ?_ rfl
  simp only [Try.ntmps22, List.size_toArray, List.length_cons, List.length_nil, Nat.reduceAdd, Nat.reduceSub, Array.replicate_succ, Array.replicate_zero, List.push_toArray, List.append_toArray, List.nil_append, List.cons_append]
  gi_wp2
  go_ret
  exact ⟨rfl, rfl⟩
theorem back_stops (n : Nat) (bx : Nat) (sa : Option Addr) (sc : Nat) (S : List (Nat × Nat)) (hS : S.length ≤ 1000) (w : World) (hbx : w.cell? ⟨bx, 0, none⟩ = some (.slice sa S.length sc)) (hc : PvAt w sa S) :
    SeqStopsK Fence.wide n Try.prog 37 #[.pointer (some ⟨bx, 0, none⟩)] (encB S) (KeepB sa bx) (fun ys => ys = List.range S.length) (fun pre => ∃ k, k ≤ S.length ∧ pre = List.range k) S.length w := fun l J Jx W hW _ _ hY h0 => by
  have hlt : ∀ {p : Addr} {u : Value}, w.cell? p = some u → W.cell? p = some u := fun {p u} h => (hW.cell (World.block_lt_of_cell? w _ h)).trans h
  exact back1_in n l bx sa sc S hS J Jx hY W (hlt hbx) (fun i hi => by
    obtain ⟨g, e, h1, h2⟩ := hc i hi
    exact ⟨g, e, hlt h1, hlt h2⟩) h0
end Go.Proofs.Ytacncbojplmcjaa
end

section
namespace Go.Proofs.Ytacncbojplmcjaa
open Go.RowKit Go.Sort
set_option linter.unusedVariables false

/-- It goes on, whatever else. -/
def OnlyN (K : Act → World → Prop) : Exit → Act → World → Prop
  | .normal, a, w => K a w
  | _, _, _ => False
def noDefer (l : List Oper) : Bool := l.all fun o => match o.op with | .defer _ => false | _ => true
theorem rows_in_round {P : Program} {row : String} {args : Array Value} {w : World} {R : Value → World → Prop} (l n : Nat) (h : Go.Rows P row args w R) : Go.RowsIn (Fence.wide.inRound l) n P row args w R :=
  fun c cs _ => let ⟨v, w', r, s⟩ := h c cs; ⟨v, w', r, stepsIn_wide.2 s⟩
theorem oper_in_round {P : Program} {o : Oper} {a : Act} {w : World} {K K' : Act → World → Prop} {K0 : Act → World → Prop} (l n : Nat) (hd : ∀ c, o.op ≠ .defer c) (hk : ∀ a w, K a w → K' a w)
    (h : o.wp P a w K (NoPanic (OnlyN K0))) : o.wpIn (Fence.wide.inRound l) n P a w K' (NoPanic (OnlyN K0)) := by
  refine ⟨fun _ _ => trivial, ?_⟩
  unfold Oper.wp at h
  show o.uponIn _ _ _ _ _ _ ((Oper.semAt (some l) a.eval o).run P w)
  rw [Oper.semAt_some l a.eval o hd]
  generalize (execOp a.eval o).run P w = r at h ⊢
  cases r with
  | ok x w' =>
    cases x <;> simp only [Oper.upon, Oper.uponIn] at h ⊢ <;>
      first
        | exact hk _ _ h
        | exact ⟨fun e => (by cases e), CallsIn.inRound l (callsIn_wide.2 (Calls.mono h fun e w'' he => by
            cases e
            · exact hk _ _ he
            · exact he
            · exact he))⟩
        | exact ⟨fun e => (by cases e), rows_in_round l _ (Go.Rows.mono h fun v w'' he => hk _ _ he)⟩
        | exact h.elim
  | halt x w' => cases x <;> simp only [Oper.upon, Oper.uponIn] at h ⊢ <;> exact h
theorem any_in_round {P : Program} {ops : Array Oper} {K0 : Act → World → Prop} (l n : Nat) (hd : ∀ (i : Nat) (o : Oper), ops[i]? = some o → ∀ c, o.op ≠ .defer c) : ∀ (fuel : Nat) (listed : Array Bool) (a : Act) (w : World),
    wpAny P .any ops (NoPanic (OnlyN K0)) fuel listed a w → wpAnyIn (Fence.wide.inRound l) n P .any ops (NoPanic (OnlyN K0)) fuel listed a w
  | 0, _, _, _, h => h
  | fuel + 1, listed, a, w, h => by
    refine ⟨h.1, fun i hi => ?_⟩
    have h2 := h.2 i hi
    unfold wpOp at h2
    unfold wpOpIn
    cases ho : ops[i]? with
    | none => rw [ho] at h2; exact any_in_round l n hd fuel _ a w h2
    | some o =>
      rw [ho] at h2
      simp only at h2 ⊢
      by_cases hw : Region.wanted o (yielded ops a.tmps) = true
      · rw [if_pos hw] at h2 ⊢
        rcases h2 with h2 | ⟨_, _, _, h2⟩
        · exact oper_in_round l n (hd i o ho) (fun a' w' h' => any_in_round l n hd fuel _ a' w' h') h2
        · exact h2.elim
      · rw [if_neg hw] at h2 ⊢
        exact ⟨fun _ _ => trivial, any_in_round l n hd fuel _ _ _ h2⟩
theorem growR_begin {P : Program} (last : Nat) (C : World → Prop) {id : Nat} {a : Act} {w : World} {l : List Oper} {lr n : Nat} {Q : Exit → Act → World → Prop} (hm : P.follows .mixedOrders = true) (hd : noDefer l = true)
    (h : wpAnyT P l.toArray (NoPanic (OnlyN fun a w => Q .normal a w)) C last l.length (Array.replicate l.length false) a w.drew) : (Code.region id l.toArray true).wpIn (Fence.wide.inRound lr) n P Q a w := by
  have h1 := wpAny_of_T (C := C) (last := last) _ _ _ _ h
  have hd2 : ∀ (i : Nat) (o : Oper), l.toArray[i]? = some o → ∀ c, o.op ≠ .defer c := fun i o ho c e => by
    rw [List.getElem?_toArray] at ho
    have h2 := List.all_eq_true.1 hd o (List.mem_of_getElem? ho)
    rw [e] at h2
    cases h2
  have h3 := any_in_round lr n hd2 l.length _ a w.drew h1
  refine Code.wpIn_mono (Q := NoPanic (OnlyN fun a w => Q .normal a w)) (fun e a w hq => ?_) (wpIn_region_any hm ?_)
  · cases e <;> first | exact hq | exact (hq : False).elim
  · rw [List.size_toArray]
    exact h3
end Go.Proofs.Ytacncbojplmcjaa
end

section
namespace Go.Proofs.Ytacncbojplmcjaa
open Go.ChangeShapes Go.WideShapes Go.ChangeAt Go.RowKit Go.Joins Go.Shelf
set_option linter.unusedVariables false

attribute [local go_sem] Oper.semAt_some

theorem clr_ok {m n : Nat} {S : List (Nat × Nat)} (hlow : ∀ s ∈ S, s.1 < m ∧ s.2 < n) (hnd : (S.map Prod.fst).Nodup) {i : Nat} {p : Pd} (ok : Ok m n p) (hi : i < S.length) : ∀ j, j ≤ i → Ok m n (clr S i j p) ∧ (clr S i j p).2.length ≤ p.2.length + j
  | 0, _ => ⟨ok, by simp [clr]⟩
  | j + 1, hj => by
    obtain ⟨k1, k2⟩ := clr_ok hlow hnd ok hi j (by omega)
    have hjS : j < S.length := by omega
    have e : clr S i (j + 1) p = addP (clr S i j p) S[j].1 S[i].1 (at2 (clr S i j p).1 S[j].1 S[i].2) := by
      show addP _ _ _ _ = _
      rw [getP hjS, getP hi]
    rw [e]
    have hne : S[j].1 ≠ S[i].1 := fun e2 => by
      have h2 := List.pairwise_iff_getElem.1 hnd j i (by simp; omega) (by simp; omega) (by omega)
      simp only [List.getElem_map] at h2
      exact h2 e2
    refine ⟨k1.add (hlow _ (List.getElem_mem hjS)).1 (hlow _ (List.getElem_mem hi)).1 (k1.rect.at2_lt _ _) hne, ?_⟩
    unfold addP
    split
    · omega
    · simp; omega
/-- A block that is no cells turns, from B on. -/
theorem BnAt.turned {B Bb g : Nat} {w w' : World} {p : Pd} {dv sv : Value} {S : List (Nat × Nat)} (h : BnAt B w Bb g p dv S sv) {row : Option Nat} (k : w.grownBy w' row) (hr : ∀ r, row = some r → B ≤ r ∧ ∃ o : Obj, w.heap[r]? = some o ∧ o.isCells = false) : BnAt B w' Bb g p dv S sv := by
  have hne : ∀ {b : Nat} {cs : Array Value} {t : TypeId} {r : Nat × Nat}, w.heap[b]? = some (.cells cs t r) → w'.heap[b]? = w.heap[b]? := fun {b cs t r} hc => k.block b (Array.getElem?_eq_some_iff.1 hc).1 fun e => by
    obtain ⟨_, o, ho, hn⟩ := hr b e.symm
    rw [hc] at ho
    cases ho
    cases hn
  have hk : Keep B w w' := ⟨k.os, k.tape, k.output, k.size, fun b hb hh => by
    rcases hh with hh | ⟨cs, r, e⟩
    · exact k.block b hb fun e => by have := (hr b e.symm).1; omega
    · exact hne e⟩
  obtain ⟨cs, hg⟩ := h.grid.kind
  refine ⟨h.lo, (hne h.ben).trans h.ben, h.grid.kept hk (hne hg), own_kept h.deed fun b hb => ?_, own_kept h.step fun b hb => ?_⟩
  · obtain ⟨_, _, cs, e⟩ := own_at h.deed hb; exact hne e
  · obtain ⟨_, _, cs, e⟩ := own_at h.step hb; exact hne e
theorem Below.turned {B : Nat} {a w w' : World} (h : Below B a w) {row : Option Nat} (k : w.grownBy w' row) (hr : ∀ r, row = some r → B ≤ r) (hB : B ≤ w.heap.size) : Below B a w' :=
  h.trans ⟨k.os, k.tape, k.output, k.size, fun b hb => k.block b (by omega) fun e => by have := hr b e.symm; omega⟩

/-- Between two rounds. -/
structure CbAt (B m n : Nat) (w0 : World) (Bb g bb : Nat) (p0 : Pd) (S : List (Nat × Nat)) (sv : Value) (pre : List Nat) (W : World) (p : Pd) (dv : Value) : Prop where
  bn : BnAt B W Bb g p dv S sv
  ok : Ok m n p
  few : p.2.length ≤ p0.2.length + pre.length * S.length
  told : pre = List.range pre.length → p = clrB S pre.length p0
  box : W.heap[bb]? = some (.cells #[.pointer (some ⟨Bb, 0, none⟩)] 46 (0, 0))
  box2 : W.heap[bb + 1]? = some (.cells #[sv] 49 (0, 0))
  low : Below B w0 W
def CbI (B m n : Nat) (w0 : World) (Bb g bb : Nat) (p0 : Pd) (S : List (Nat × Nat)) (sv : Value) (pre : List Nat) (W : World) : Prop := ∃ p dv, CbAt B m n w0 Bb g bb p0 S sv pre W p dv
theorem CbAt.turned {B m n : Nat} {w0 W W' : World} {Bb g bb : Nat} {p0 : Pd} {S : List (Nat × Nat)} {sv : Value} {pre : List Nat} {p : Pd} {dv : Value} (h : CbAt B m n w0 Bb g bb p0 S sv pre W p dv) {row : Option Nat} (k : W.grownBy W' row) (hr : ∀ r, row = some r → B ≤ r ∧ ∃ o : Obj, W.heap[r]? = some o ∧ o.isCells = false) : CbAt B m n w0 Bb g bb p0 S sv pre W' p dv := by
  refine ⟨h.bn.turned k hr, h.ok, h.few, h.told, ?_, ?_, Below.turned h.low k (fun r e => (hr r e).1) h.bn.size⟩
  · rw [k.block bb (Array.getElem?_eq_some_iff.1 h.box).1 fun e => ?_]
    · exact h.box
    · obtain ⟨_, o, ho, hn⟩ := hr bb e.symm
      rw [h.box] at ho
      cases ho
      cases hn
  · rw [k.block (bb + 1) (Array.getElem?_eq_some_iff.1 h.box2).1 fun e => ?_]
    · exact h.box2
    · obtain ⟨_, o, ho, hn⟩ := hr (bb + 1) e.symm
      rw [h.box2] at ho
      cases ho
      cases hn
theorem CbI.own {B m n : Nat} {w0 : World} {Bb g bb : Nat} {p0 : Pd} {S : List (Nat × Nat)} {sv : Value} {C : Nat} (hC : B ≤ C) : OwnFrom C (CbI B m n w0 Bb g bb p0 S sv) := fun pre W W' row hs hg hr => by
  obtain ⟨p, dv, h⟩ := hs
  exact ⟨p, dv, h.turned hg fun r e => ⟨Nat.le_trans hC (hr r e).1, (hr r e).2⟩⟩
/-- The loop's variable. -/
def PxAt (W : World) (Px : Nat) (s : Nat × Nat) : Prop := W.heap[Px]? = some (.cells #[.int .i64 (s.1 : Int), .int .i64 (s.2 : Int)] 68 (0, 0))
theorem PxAt.own (Px : Nat) (s : Nat × Nat) (C : Nat) : OwnFrom C (fun (_ : Unit) W => PxAt W Px s) := fun _ W W' row hs hg hr => by
  have hs : W.heap[Px]? = some (.cells #[.int .i64 (s.1 : Int), .int .i64 (s.2 : Int)] 68 (0, 0)) := hs
  show W'.heap[Px]? = _
  rw [hg.block Px (Array.getElem?_eq_some_iff.1 hs).1 fun e => ?_]
  · exact hs
  · obtain ⟨_, o, ho, hn⟩ := hr Px e.symm
    rw [hs] at ho
    cases ho
    cases hn
theorem OwnV.kind {B c : Nat} {w : World} {a : Option Addr} {P : List (Nat × Nat)} (h : OwnV B w (.slice a P.length c) P) : ∀ p, a = some p → ∃ cs r, w.heap[p.block]? = some (.cells cs 68 r) := fun p hp => by
  rcases h.2 with ⟨e1, _⟩ | ⟨sg, cap, cur, e1, _, e3, _⟩
  · injection e1 with e1; rw [e1] at hp; cases hp
  · injection e1 with e1; rw [e1] at hp; cases hp
    exact ⟨cur, _, e3⟩
/-- What a step of the bench's leaves a round. -/
theorem Fb.others {B C : Nat} {w w' : World} (h : Fb T3 B w w') : KeepsFrom C w w' :=
  ⟨h.low.size, fun k o _ hk ho => (h.stay k (Array.getElem?_eq_some_iff.1 hk).1 fun cs t r e => by rw [hk] at e; cases e; cases ho).trans hk⟩
theorem Fb.keepB {B : Nat} {w w' : World} (h : Fb T3 B w w') {sa : Option Addr} {bx : Nat} {cs : Array Value} {r : Nat × Nat} (hb : w.heap[bx]? = some (.cells cs 49 r)) (hs : ∀ p, sa = some p → ∃ cs r, w.heap[p.block]? = some (.cells cs 68 r)) : KeepB sa bx w w' :=
  ⟨h.low.size, (h.block hb (by decide)).trans hb.symm, fun p hp => by
    obtain ⟨cs, r, e⟩ := hs p hp
    exact (h.block e (by decide)).trans e.symm⟩
end Go.Proofs.Ytacncbojplmcjaa
end
