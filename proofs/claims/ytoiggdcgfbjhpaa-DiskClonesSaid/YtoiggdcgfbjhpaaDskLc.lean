/-
  The law DiskClones, walked: three disks beside one another.
-/
import Derived.Test.YtoiggdcgfbjhpaaDskLt
import Derived.Test.YtoiggdcgfbjhpaaGrowW
namespace Go.Proofs.Ytoiggdcgfbjhpaa
open Go.ChangeShapes Go.WideShapes Go.ChangeAt Go.RowKit Go.Joins
set_option linter.unusedVariables false

structure Trio (W w : World) (B C X : Nat) (SB SC SX : St) (gB gC gX : Gh) : Prop where
  b : Mem W w B SB gB
  c : Mem W w C SC gC
  x : Mem W w X SX gX
  bc : Apart B gB C gC
  bx : Apart B gB X gX
  cx : Apart C gC X gX
theorem Trio.later {W w w' : World} {B C X : Nat} {SB SC SX : St} {gB gC gX : Gh} (h : Trio W w B C X SB SC SX gB gC gX) (hb : Below w.heap.size w w') : Trio W w' B C X SB SC SX gB gC gX :=
  ⟨h.b.later hb, h.c.later hb, h.x.later hb, h.bc, h.bx, h.cx⟩
/-- The first one does something. -/
theorem Trio.step {W w w' : World} {B C X : Nat} {SB SB' SC SX : St} {gB gB' gC gX : Gh} (h : Trio W w B C X SB SC SX gB gC gX) (r : Rep w' B SB' gB') (f : Fr (Foot B gB) w w') (q : ∀ k, Foot B gB' k → Foot B gB k ∨ w.heap.size ≤ k) : Trio W w' B C X SB' SC SX gB' gC gX := by
  have m := h.b.did r f q
  obtain ⟨r1, a1⟩ := h.c.rep.beside h.bc f q
  obtain ⟨r2, a2⟩ := h.x.rep.beside h.bx f q
  exact ⟨m, ⟨r1, m.low, h.c.foot⟩, ⟨r2, m.low, h.x.foot⟩, a1, a2, h.cx⟩
theorem Trio.rot {W w : World} {B C X : Nat} {SB SC SX : St} {gB gC gX : Gh} (h : Trio W w B C X SB SC SX gB gC gX) : Trio W w C X B SC SX SB gC gX gB := ⟨h.c, h.x, h.b, h.cx, h.bc.symm, h.bx.symm⟩

set_option maxRecDepth 100000 in
set_option maxHeartbeats 4000000 in
theorem clones_good {W w : World} (cap : Int) (h0 : 0 ≤ cap) (h1 : cap ≤ 1048576) (sa : Option Addr) (sc : Nat) (l : List ActV) (hl : Acts W sa sc l) (ma : Option Addr) (mc : Nat) (m : List ActV) (hm : Acts W ma mc m) (hf : fewB 60 l = true) (hf2 : fewB 60 m = true) :
    Calls Try.prog 3 #[.int .i64 cap, .slice sa l.length sc, .slice ma m.length mc] W fun e w' => e = .returned (.bool true) ∧ Below W.heap.size W w' := by
  have hfw : l.length ≤ 60 ∧ sizeAll l ≤ 100000 := by simpa [fewB] using hf
  have hfw2 : m.length ≤ 60 ∧ sizeAll m ≤ 100000 := by simpa [fewB] using hf2
  have HFW := Lib.hid hfw
  have HFW2 := Lib.hid hfw2
  have HL := Lib.hid hl
  have HM0 := Lib.hid hm
  have hl60 : l.length ≤ 60 := hfw.1
  have hm60 : m.length ≤ 60 := hfw2.1
  have hlz : (l.length : Int) ≤ (sc : Int) := by have := hl.len; omega
  have hmz : (m.length : Int) ≤ (mc : Int) := by have := hm.len; omega
  have h0' := Lib.hid (And.intro h0 h1)
  have HFB := Lib.hid hf
  have HFB2 := Lib.hid hf2
  clear hl hm hfw hfw2 h0 h1 hf hf2
  go_enter Try.func3, Try.ntmps3
  go_wp2_with fail
  (with_reducible refine (awake_any _).mono ?_)
  rintro e w1 ⟨rfl, b1⟩
  have HB1 := Lib.hid b1
  have hfew := few60 HL.out w1 b1
  rw [HFB.out] at hfew
  clear b1
  go_wp2_with fail
  (with_reducible refine hfew.mono ?_)
  rintro e w2 ⟨rfl, nd, hw2⟩
  have HB2 : Hid (Below W.heap.size W w2) := by rw [hw2]; exact low_drewN HB1.out nd
  clear hw2 hfew
  have hfew := few60 HM0.out w2 HB2.out
  rw [HFB2.out] at hfew
  go_wp2_with fail
  (with_reducible refine hfew.mono ?_)
  rintro e w3 ⟨rfl, nd2, hw3⟩
  have HB3 : Hid (Below W.heap.size W w3) := by rw [hw3]; exact low_drewN HB2.out nd2
  clear hw3 hfew
  have hnew := new_good cap h0'.out.1 h0'.out.2 w3
  go_wp2_with fail
  (with_reducible refine hnew.mono ?_)
  rintro e w4 ⟨rfl, r3, b3, z3⟩
  obtain ⟨B, hB⟩ : ∃ B, w3.heap.size = B := ⟨_, rfl⟩
  have M3 := Lib.hid (Mem.new HB3.out r3 b3)
  rw [hB] at M3 ⊢
  clear r3 b3 z3 hnew hB
  have HI0 := Lib.hid (newInv cap)
  go_wp2_with fail
  go_loopg [45] l.length (fun gg i wr => ∃ k g, k ≤ l.length ∧ l.length - k ≤ gg ∧ i = .int .i64 (k : Int) ∧ Hid (Mem W wr B (runS l (newSt cap) k) g))
  case atStart => exact ⟨0, newGh, by omega, by omega, rfl, M3.out⟩
  case round =>
    obtain ⟨k, g, hkl, hgg, rfl, HM⟩ := hrel
    by_cases hlt : k < l.length
    · have hltz : (k : Int) < (l.length : Int) := by omega
      obtain ⟨b, off, rfl, hbl, c0, c1, c2, c3, c4, c5⟩ := HL.out.cells HM.out.low hlt
      have hdo := do_one HM.out HI0.out HL.out.ok hlt (by show 0 + l.length ≤ 900; omega) (by have := HFW.out.2; show 0 + sizeAll l ≤ 900000; omega)
      generalize l[k] = x at *
      go_wp2_with fail
      (with_reducible refine hdo.mono ?_)
      rintro e w5 ⟨rfl, g5, r5, f5, q5⟩
      have M5 := Lib.hid (HM.out.did r5 f5 q5)
      clear r5 f5 q5 hdo c0 c1 c2 c3 c4 c5
      go_wp2_with fail
      go_roundg (l.length - (k + 1))
      case measure => omega
      case rel => exact ⟨k + 1, g5, by omega, Nat.le_refl _, by first | rfl | go_num, M5.out⟩
    · obtain rfl : k = l.length := by omega
      have hltz : ¬ (l.length : Int) < (l.length : Int) := by omega
      obtain ⟨i1, i2, i3⟩ := run_inv HI0.out HL.out.ok l.length (Nat.le_refl _)
      rw [List.take_length] at i3
      obtain ⟨S1, hS1⟩ : ∃ S1, runS l (newSt cap) l.length = S1 := ⟨_, rfl⟩
      rw [hS1] at HM i1 i2 i3
      have HBD : Hid (S1.steps ≤ 60 ∧ S1.tot ≤ 100000) := ⟨by have : S1.steps ≤ 0 + l.length := i2; omega, by have : S1.tot ≤ 0 + sizeAll l := i3; have := HFW.out.2; omega⟩
      have HI1 := Lib.hid i1
      clear hS1 i1 i2 i3
      have hcl := clone_any HM.out.rep HI1.out (by have := HBD.out.1; omega)
      go_wp2_with fail
      (with_reducible refine hcl.mono ?_)
      rintro e w5 ⟨C, gC, rfl, rC, nC, bC⟩
      have HC := Lib.hid (And.intro rC (And.intro nC bC))
      have hcl2 := clone_any (HM.out.rep.later bC) HI1.out (by have := HBD.out.1; omega)
      clear rC nC bC hcl
      go_wp2_with fail
      (with_reducible refine hcl2.mono ?_)
      rintro e w6 ⟨X, gX, rfl, rX, nX, bX⟩
      have HT : Hid (Trio W w6 B C X S1 S1 S1 g gC gX) := by
        have mB5 := HM.out.later HC.out.2.2
        have mC5 : Mem W w5 C S1 gC := ⟨HC.out.1, mB5.low, fun k hk => Nat.le_trans HM.out.low.size (HC.out.2.1 k hk)⟩
        have mB6 := mB5.later bX
        refine ⟨mB6, mC5.later bX, ⟨rX, mB6.low, fun k hk => Nat.le_trans mB5.low.size (nX k hk)⟩, fun k h1 h2 => ?_, fun k h1 h2 => ?_, fun k h1 h2 => ?_⟩
        · have := HM.out.rep.foot_lt h1; have := HC.out.2.1 k h2; omega
        · have := mB5.rep.foot_lt h1; have := nX k h2; omega
        · have := mC5.rep.foot_lt h1; have := nX k h2; omega
      clear rX nX bX hcl2 HC
      obtain ⟨wo, hwo⟩ : ∃ wo, wo = wr := ⟨_, rfl⟩
      rw [← hwo] at HM
      clear hwo
      go_wp2_with fail
      go_loopg [61] m.length (fun gg i wr => ∃ k gC, k ≤ m.length ∧ m.length - k ≤ gg ∧ i = .int .i64 (k : Int) ∧ Hid (Trio W wr B C X S1 (runS m S1 k) S1 g gC gX))
      case atStart => exact ⟨0, gC, by omega, by omega, rfl, HT.out⟩
      case round =>
        obtain ⟨k, gC, hkm, hgg2, rfl, HT⟩ := hrel
        by_cases hlt2 : k < m.length
        · have hltz2 : (k : Int) < (m.length : Int) := by omega
          obtain ⟨b, off, rfl, hbl, c0, c1, c2, c3, c4, c5⟩ := HM0.out.cells HT.out.c.low hlt2
          have hdo := do_one HT.out.c HI1.out HM0.out.ok hlt2 (by have := HBD.out.1; omega) (by have := HFW2.out.2; have := HBD.out.2; omega)
          generalize m[k] = x at *
          go_wp2_with fail
          (with_reducible refine hdo.mono ?_)
          rintro e w7 ⟨rfl, g7, r7, f7, q7⟩
          have T7 := Lib.hid (HT.out.rot.step r7 f7 q7).rot.rot
          clear r7 f7 q7 hdo c0 c1 c2 c3 c4 c5
          go_wp2_with fail
          go_roundg (m.length - (k + 1))
          case measure => omega
          case rel => exact ⟨k + 1, g7, by omega, Nat.le_refl _, by first | rfl | go_num, T7.out⟩
        · obtain rfl : k = m.length := by omega
          have hltz2 : ¬ (m.length : Int) < (m.length : Int) := by omega
          obtain ⟨wo2, hwo⟩ : ∃ wo, wo = wr := ⟨_, rfl⟩
          have HT2 : Hid (Trio W wo2 B C X (runS m S1 0) (runS m S1 m.length) (runS m S1 0) g gC gX) := by rw [hwo]; exact HT.out
          go_wp2_with fail
          rw [← hwo]
          clear hwo HT
          go_loopg [73] m.length (fun gg i wr => ∃ k gB gX, k ≤ m.length ∧ m.length - k ≤ gg ∧ i = .int .i64 (k : Int) ∧ Hid (Trio W wr B C X (runS m S1 k) (runS m S1 m.length) (runS m S1 k) gB gC gX))
          case atStart => exact ⟨0, g, gX, by omega, by omega, rfl, HT2.out⟩
          case round =>
            obtain ⟨k, gB, gX, hkm, hgg3, rfl, HT⟩ := hrel
            by_cases hlt3 : k < m.length
            · have hltz3 : (k : Int) < (m.length : Int) := by omega
              obtain ⟨b, off, rfl, hbl, -⟩ := HM0.out.cells HT.out.c.low hlt3
              have hcell := fun p : LowW W => HM0.out.cells p.h hlt3
              have c0 : ∀ p : LowW W, p.v.cell? ⟨b, off + k * 6, none⟩ = some (.int .u8 (m[k].kind : Int)) := fun p => by
                obtain ⟨b', off', e, _, h, _⟩ := hcell p
                cases e; exact h
              have c1 : ∀ p : LowW W, p.v.cell? ⟨b, off + k * 6 + 1, none⟩ = some (.string m[k].a) := fun p => by
                obtain ⟨b', off', e, _, _, h, _⟩ := hcell p
                cases e; exact h
              have c2 : ∀ p : LowW W, p.v.cell? ⟨b, off + k * 6 + 2, none⟩ = some (.string m[k].b) := fun p => by
                obtain ⟨b', off', e, _, _, _, h, _⟩ := hcell p
                cases e; exact h
              have c3 : ∀ p : LowW W, p.v.cell? ⟨b, off + k * 6 + 3, none⟩ = some (.int .i64 m[k].n) := fun p => by
                obtain ⟨b', off', e, _, _, _, _, h, _⟩ := hcell p
                cases e; exact h
              have c4 : ∀ p : LowW W, p.v.cell? ⟨b, off + k * 6 + 4, none⟩ = some (.slice m[k].da m[k].data.length m[k].dc) := fun p => by
                obtain ⟨b', off', e, _, _, _, _, _, h, _⟩ := hcell p
                cases e; exact h
              have c5 : ∀ p : LowW W, p.v.cell? ⟨b, off + k * 6 + 5, none⟩ = some (.slice m[k].ka m[k].ks.length m[k].kc) := fun p => by
                obtain ⟨b', off', e, _, _, _, _, _, _, h⟩ := hcell p
                cases e; exact h
              clear hcell
              have hbd := HBD.out
              have HDB : Hid (∀ w7, Trio W w7 B C X (runS m S1 k) (runS m S1 m.length) (runS m S1 k) gB gC gX → Calls Try.prog 8 #[.pointer (some ⟨B, 0, none⟩), .agg #[.int .u8 (m[k].kind : Int), .string m[k].a, .string m[k].b, .int .i64 m[k].n, .slice m[k].da m[k].data.length m[k].dc, .slice m[k].ka m[k].ks.length m[k].kc]] w7 fun e w' => e = .returned (.int .i64 (doS m[k].act (runS m S1 k)).1) ∧ Did B (runS m S1 (k + 1)) gB w7 w') :=
                fun w7 h => do_one h.b HI1.out HM0.out.ok hlt3 (by omega) (by have := HFW2.out.2; omega)
              have HDX : Hid (∀ w7 gB', Trio W w7 B C X (runS m S1 (k + 1)) (runS m S1 m.length) (runS m S1 k) gB' gC gX → Calls Try.prog 8 #[.pointer (some ⟨X, 0, none⟩), .agg #[.int .u8 (m[k].kind : Int), .string m[k].a, .string m[k].b, .int .i64 m[k].n, .slice m[k].da m[k].data.length m[k].dc, .slice m[k].ka m[k].ks.length m[k].kc]] w7 fun e w' => e = .returned (.int .i64 (doS m[k].act (runS m S1 k)).1) ∧ Did X (runS m S1 (k + 1)) gX w7 w') :=
                fun w7 gB' h => do_one h.x HI1.out HM0.out.ok hlt3 (by omega) (by have := HFW2.out.2; omega)
              obtain ⟨e0, he0⟩ : ∃ e0, (doS m[k].act (runS m S1 k)).1 = e0 := ⟨_, rfl⟩
              rw [he0] at HDB HDX
              clear he0 hbd
              generalize m[k] = x at *
              go_upto_region 20 with fail
              have hbd : Below wr.heap.size wr wr.drew := (Below.refl _ _).drew
              have HTd := Lib.hid (HT.out.later hbd)
              clear hbd
              have hlow := HTd.out.b.low
              refine growW_begin (C := fun w' => ∃ p : LowW W, w' = p.v) (by kernel_rfl) (low_class hlow) ?_
              refine growW_take (by kernel_rfl) [0, 1, 2, 3, 4, 6, 7, 8, 9, 10] 3 _ _ (by kernel_rfl) _ (low_class hlow) ?_
              simp only [opsAt, List.getElem?_toArray, List.getElem?_cons_succ, List.getElem?_cons_zero]
              generalize wr.drew = wd at *
              repeat (first | go_big_quiet_step (fail) | quiet_step (fail))
              refine wpQuiet_nil ?_
              clear c0 c1 c2 c3 c4 c5
              refine growW_one 5 (by kernel_rfl) (fun K hK => ?_)
              simp only [stepOf, List.getElem?_toArray, List.getElem?_cons_succ, List.getElem?_cons_zero]
              go_simp
              go_at_call 8
              refine (HDB.out _ HTd.out).mono ?_
              rintro e w7 ⟨rfl, gB7, r7, f7, q7⟩
              have T7 := Lib.hid (HTd.out.step r7 f7 q7)
              refine hK.out _ _ (low_class T7.out.b.low) ?_
              clear hK K r7 f7 q7 hlow
              refine growW_one 11 (by kernel_rfl) (fun K hK => ?_)
              simp only [stepOf, List.getElem?_toArray, List.getElem?_cons_succ, List.getElem?_cons_zero]
              go_simp
              go_at_call 8
              refine (HDX.out _ _ T7.out).mono ?_
              rintro e w9 ⟨rfl, gX9, r9, f9, q9⟩
              have T9 := Lib.hid (T7.out.rot.rot.step r9 f9 q9).rot
              have hlow := T9.out.b.low
              refine hK.out _ _ (low_class hlow) ?_
              clear hK K r9 f9 q9 HTd T7 HDB HDX HT
              refine growW_take (by kernel_rfl) [12] 0 _ _ (by kernel_rfl) _ (low_class hlow) ?_
              simp only [opsAt, List.getElem?_toArray, List.getElem?_cons_succ, List.getElem?_cons_zero]
              repeat (first | go_big_quiet_step (fail) | quiet_step (fail))
              refine wpQuiet_nil ?_
              refine growW_done (by kernel_rfl) ?_
              go_wp2_with fail
              go_roundg (m.length - (k + 1))
              case measure => omega
              case rel => exact ⟨k + 1, gB7, gX9, by omega, Nat.le_refl _, by first | rfl | go_num, T9.out⟩
            · obtain rfl : k = m.length := by omega
              have hltz3 : ¬ (m.length : Int) < (m.length : Int) := by omega
              clear hgg3 hlt3 HT2
              obtain ⟨i1, i2, -⟩ := run_inv HI1.out HM0.out.ok m.length (Nat.le_refl _)
              obtain ⟨S2, hS2⟩ : ∃ S2, runS m S1 m.length = S2 := ⟨_, rfl⟩
              rw [hS2] at HT i1 i2
              have hst2 : Hid (S2.steps ≤ 900) := by have := HBD.out.1; exact Lib.hid (by omega)
              have HI2 := Lib.hid i1
              clear hS2 i1 i2
              have hnm := names_rep HT.out.b.rep hst2.out
              go_wp2_with fail
              (with_reducible refine hnm.mono ?_)
              rintro e w5 ⟨v, rfl, N5⟩
              obtain ⟨va, vc, rfl, hvc, hvc'⟩ := own_shape N5.row
              have T5 := Lib.hid (HT.out.later N5.low)
              have HW5 := Lib.hid N5.row
              have hnx := names_rep T5.out.x.rep hst2.out
              clear N5 hnm
              go_wp2_with fail
              (with_reducible refine hnx.mono ?_)
              rintro e w6 ⟨v, rfl, N6⟩
              obtain ⟨xa, xc, rfl, hxc, hxc'⟩ := own_shape N6.row
              have T6 := Lib.hid (T5.out.later N6.low)
              have HWL := Lib.hid (row_fr (X := fun _ => False) HW5.out (Fr.of_below N6.low) (fun _ _ h => h))
              have HWX := Lib.hid N6.row
              clear N6 hnx HW5
              obtain ⟨M, hM⟩ : ∃ M, (namesD S2.Dn).length = M := ⟨_, rfl⟩
              have HMM := Lib.hid hM
              have hMle : M ≤ 900 := by have h1 := names_len T6.out.b.rep.nm; have h2 := T6.out.b.rep.nn; have h3 := hst2.out; omega
              rw [hM] at hvc' hxc' HWL HWX ⊢
              clear hM
              have hMz : (M : Int) ≤ (vc : Int) := by omega
              have hMx : (M : Int) ≤ (xc : Int) := by omega
              have hr1 := room_rep T6.out.b.rep
              go_wp2_with fail
              (with_reducible refine hr1.mono ?_)
              rintro e w7 ⟨rfl, b7, -⟩
              have T7 := Lib.hid (T6.out.later b7)
              have HL7 := Lib.hid (row_fr (X := fun _ => False) HWL.out (Fr.of_below b7) (fun _ _ h => h))
              have HX7 := Lib.hid (row_fr (X := fun _ => False) HWX.out (Fr.of_below b7) (fun _ _ h => h))
              have hr2 := room_rep T7.out.x.rep
              clear b7 hr1 HWL HWX T6
              go_wp2_with fail
              (with_reducible refine hr2.mono ?_)
              rintro e w8 ⟨rfl, b8, -⟩
              have T8 := Lib.hid (T7.out.later b8)
              have HL8 := Lib.hid (row_fr (X := fun _ => False) HL7.out (Fr.of_below b8) (fun _ _ h => h))
              have HX8 := Lib.hid (row_fr (X := fun _ => False) HX7.out (Fr.of_below b8) (fun _ _ h => h))
              have hnc := names_rep T8.out.c.rep hst2.out
              clear b8 hr2 HL7 HX7 T7
              go_wp2_with fail
              (with_reducible refine hnc.mono ?_)
              rintro e w9 ⟨v, rfl, N9⟩
              obtain ⟨ya, yc, rfl, hyc, -⟩ := own_shape N9.row
              have T9 := Lib.hid (T8.out.later N9.low)
              have HL9 := Lib.hid (row_fr (X := fun _ => False) HL8.out (Fr.of_below N9.low) (fun _ _ h => h))
              have HX9 := Lib.hid (row_fr (X := fun _ => False) HX8.out (Fr.of_below N9.low) (fun _ _ h => h))
              clear N9 hnc HL8 HX8 T8
              rw [HMM.out]
              clear hvc hvc' hxc hxc'
              obtain ⟨wo3, hwo⟩ : ∃ wo, wo = wr := ⟨_, rfl⟩
              rw [← hwo] at HT
              clear hwo
              go_wp2_with fail
              go_loopg [116] M (fun gg i wr => ∃ k, k ≤ M ∧ M - k ≤ gg ∧ i = .int .i64 (k : Int) ∧ Hid (Below w9.heap.size w9 wr))
              case atStart => exact ⟨0, by omega, by omega, rfl, Below.refl _ _⟩
              case round =>
                obtain ⟨k, hkM, hkg, rfl, HBW⟩ := hrel
                by_cases hlt : k < M
                · have hltz : (k : Int) < (M : Int) := by omega
                  have hkN : k < (namesD S2.Dn).length := by rw [HMM.out]; exact hlt
                  have hrow := row_fr (X := fun _ => False) HL9.out (Fr.of_below HBW.out) (fun _ _ h => h)
                  obtain ⟨r0, rfl⟩ : ∃ r0, va = some ⟨r0, 0, none⟩ := by
                    rcases hrow.2 with ⟨_, h0⟩ | ⟨gg, cap, cur, hv, _⟩
                    · omega
                    · cases hv; exact ⟨_, rfl⟩
                  have hrox := row_fr (X := fun _ => False) HX9.out (Fr.of_below HBW.out) (fun _ _ h => h)
                  obtain ⟨r1, rfl⟩ : ∃ r1, xa = some ⟨r1, 0, none⟩ := by
                    rcases hrox.2 with ⟨_, h0⟩ | ⟨gg, cap, cur, hv, _⟩
                    · omega
                    · cases hv; exact ⟨_, rfl⟩
                  have s0 : wr.cell? ⟨r0, k, none⟩ = some (.string ⟨(namesD S2.Dn)[k].toArray⟩) := by
                    have := hrow.cells (g := r0) rfl k (encStr (namesD S2.Dn)[k]) (by simp [hkN])
                    by_cases k0 : k = 0
                    · subst k0; simpa [Addr.add] using this
                    · simpa [Addr.add, k0] using this
                  have t0 : wr.cell? ⟨r1, k, none⟩ = some (.string ⟨(namesD S2.Dn)[k].toArray⟩) := by
                    have := hrox.cells (g := r1) rfl k (encStr (namesD S2.Dn)[k]) (by simp [hkN])
                    by_cases k0 : k = 0
                    · subst k0; simpa [Addr.add] using this
                    · simpa [Addr.add, k0] using this
                  obtain ⟨hhas, hsl⟩ := names_has T9.out.b.rep.nm (List.getElem_mem hkN)
                  obtain ⟨nm, hnmk⟩ : ∃ nm, (namesD S2.Dn)[k] = nm := ⟨_, rfl⟩
                  rw [hnmk] at s0 t0 hhas hsl
                  clear hnmk
                  have hsm : (⟨nm.toArray⟩ : ByteArray).size ≤ maxLen := by show nm.toArray.size ≤ maxLen; simpa using hsl
                  obtain ⟨str, hstr⟩ : ∃ str : ByteArray, (⟨nm.toArray⟩ : ByteArray) = str := ⟨_, rfl⟩
                  rw [hstr] at s0 t0 hsm
                  clear hstr
                  have hb2 := bytes_any str (T9.out.b.rep.later HBW.out) HI2.out hst2.out hsm
                  have hb3 := fun w10 (hb : Below wr.heap.size wr w10) => bytes_any str (T9.out.x.rep.later (HBW.out.trans (hb.mono HBW.out.size))) HI2.out hst2.out hsm
                  obtain ⟨bb, hbb⟩ : ∃ bb, (bytesS str S2).1 = bb := ⟨_, rfl⟩
                  obtain ⟨ee, hee⟩ : ∃ ee, (bytesS str S2).2 = ee := ⟨_, rfl⟩
                  rw [hbb, hee] at hb2 hb3
                  have HB3 := Lib.hid hb3
                  have hrb : r0 < wr.heap.size := World.block_lt_of_cell? wr _ s0
                  have hrx : r1 < wr.heap.size := World.block_lt_of_cell? wr _ t0
                  clear hkN hrow hrox hhas hsl hsm hbb hee hb3
                  go_wp2_with fail
                  (with_reducible refine hb2.mono ?_)
                  rintro e w10 ⟨rfl, b10⟩
                  have hb3 := HB3.out w10 b10
                  have s9 : w10.cell? ⟨r0, k, none⟩ = some (.string str) := (b10.cell (p := ⟨r0, k, none⟩) hrb).trans s0
                  have t9 : w10.cell? ⟨r1, k, none⟩ = some (.string str) := (b10.cell (p := ⟨r1, k, none⟩) hrx).trans t0
                  have hrb9 : r0 < w10.heap.size := Nat.lt_of_lt_of_le hrb b10.size
                  have hrx9 : r1 < w10.heap.size := Nat.lt_of_lt_of_le hrx b10.size
                  have HB10 := Lib.hid b10
                  clear b10 hb2 s0 t0 HB3 hrb hrx
                  go_wp2_with fail
                  (with_reducible refine hb3.mono ?_)
                  rintro e w11 ⟨rfl, b11⟩
                  have s11 : w11.cell? ⟨r0, k, none⟩ = some (.string str) := (b11.cell (p := ⟨r0, k, none⟩) hrb9).trans s9
                  have t11 : w11.cell? ⟨r1, k, none⟩ = some (.string str) := (b11.cell (p := ⟨r1, k, none⟩) hrx9).trans t9
                  have HB11 : Hid (Below w9.heap.size w9 w11) := (HBW.out.trans (HB10.out.mono HBW.out.size)).trans (b11.mono (Nat.le_trans HBW.out.size HB10.out.size))
                  clear b11 hb3 s9 t9 hrb9 hrx9
                  go_wp2_with fail
                  go_quiet (fail)
                  go_wp2_with fail
                  go_roundg (M - (k + 1))
                  case measure => omega
                  case rel => exact ⟨k + 1, by omega, Nat.le_refl _, by first | rfl | go_num, low_drewN HB11.out _⟩
                · obtain rfl : k = M := by omega
                  have hltz : ¬ (k : Int) < (k : Int) := by omega
                  have HLOW : Hid (Below W.heap.size W wr) := T9.out.b.low.trans (HBW.out.mono T9.out.b.low.size)
                  go_wp2_with fail
                  go_ret
                  exact ⟨rfl, HLOW.out⟩
end Go.Proofs.Ytoiggdcgfbjhpaa
