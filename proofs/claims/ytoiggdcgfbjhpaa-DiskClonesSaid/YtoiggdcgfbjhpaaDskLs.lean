/-
  The law DiskSafe, walked.
-/
import Derived.Test.YtoiggdcgfbjhpaaDskLb
namespace Go.Proofs.Ytoiggdcgfbjhpaa
open Go.ChangeShapes Go.WideShapes Go.ChangeAt Go.RowKit Go.Joins
set_option linter.unusedVariables false

set_option maxRecDepth 100000 in
set_option maxHeartbeats 4000000 in
theorem safe_good {W w : World} (cap : Int) (h0 : 0 ≤ cap) (h1 : cap ≤ 1048576) (sa : Option Addr) (sc : Nat) (l : List ActV) (hl : Acts W sa sc l) (n1 n2 : Int) (hn1 : -9223372036854775808 ≤ n1 ∧ n1 ≤ 9223372036854775807) (hn2 : -9223372036854775808 ≤ n2 ∧ n2 ≤ 9223372036854775807) (ka : Option Addr) (kc : Nat) (ks : List Int) (hk : Ks W ka kc ks) (hf : fewB 60 l = true) (hkl : ¬ 100 < ks.length) :
    Calls Try.prog 4 #[.int .i64 cap, .slice sa l.length sc, .int .i64 n1, .int .i64 n2, .slice ka ks.length kc] W fun e w' => e = .returned (.bool true) ∧ Below W.heap.size W w' := by
  have hfw : l.length ≤ 60 ∧ sizeAll l ≤ 100000 := by simpa [fewB] using hf
  have HFW := Lib.hid hfw
  have HL := Lib.hid hl
  have HK := Lib.hid hk
  have HN := Lib.hid (And.intro hn1 hn2)
  have hl60 : l.length ≤ 60 := hfw.1
  have hlz : (l.length : Int) ≤ (sc : Int) := by have := hl.len; omega
  have hkz : ¬ (100 : Int) < (ks.length : Int) := by omega
  have hkl2 : ks.length ≤ 100 := by omega
  have h0' := Lib.hid (And.intro h0 h1)
  have HFB := Lib.hid hf
  clear hl hk hn1 hn2 hfw hkl h0 h1 hf
  go_enter Try.func4, Try.ntmps4
  go_wp2_with fail
  (with_reducible refine (awake_any _).mono ?_)
  rintro e w1 ⟨rfl, b1⟩
  have HB1 := Lib.hid b1
  have hfew := few60 HL.out w1 b1
  rw [HFB.out] at hfew
  clear b1
  go_wp2_with fail
  (with_reducible refine hfew.mono ?_)
  rintro e w2 ⟨rfl, nd, hw2⟩
  have HB2 : Hid (Below W.heap.size W w2) := by rw [hw2]; exact ⟨HB1.out.os, HB1.out.tape, HB1.out.output, HB1.out.size, HB1.out.block⟩
  clear hw2 hfew
  have hnew := new_good cap h0'.out.1 h0'.out.2 w2
  go_wp2_with fail
  (with_reducible refine hnew.mono ?_)
  rintro e w3 ⟨rfl, r3, b3, z3⟩
  obtain ⟨B, hB⟩ : ∃ B, w2.heap.size = B := ⟨_, rfl⟩
  have M3 := Lib.hid (Mem.new HB2.out r3 b3)
  rw [hB] at M3 ⊢
  clear r3 b3 z3 hnew hB
  have HI0 := Lib.hid (newInv cap)
  go_wp2_with fail
  go_loopg [45] l.length (fun gg i wr => ∃ k g, k ≤ l.length ∧ l.length - k ≤ gg ∧ i = .int .i64 (k : Int) ∧ Hid (Mem W wr B (runS l (newSt cap) k) g))
  case atStart => exact ⟨0, newGh, by omega, by omega, rfl, M3.out⟩
  case round =>
    obtain ⟨k, g, hkl, hgg, rfl, HM⟩ := hrel
    by_cases hlt : k < l.length
    · have hltz : (k : Int) < (l.length : Int) := by omega
      obtain ⟨b, off, rfl, hbl, c0, c1, c2, c3, c4, c5⟩ := HL.out.cells HM.out.low hlt
      have hdo := do_one HM.out HI0.out HL.out.ok hlt (by show 0 + l.length ≤ 900; omega) (by have := HFW.out.2; show 0 + sizeAll l ≤ 900000; omega)
      generalize l[k] = x at *
      go_wp2_with fail
      (with_reducible refine hdo.mono ?_)
      rintro e w5 ⟨rfl, g5, r5, f5, q5⟩
      have M5 := Lib.hid (HM.out.did r5 f5 q5)
      clear r5 f5 q5 hdo c0 c1 c2 c3 c4 c5
      go_wp2_with fail
      go_roundg (l.length - (k + 1))
      case measure => omega
      case rel => exact ⟨k + 1, g5, by omega, Nat.le_refl _, by first | rfl | go_num, M5.out⟩
    · obtain rfl : k = l.length := by omega
      have hltz : ¬ (l.length : Int) < (l.length : Int) := by omega
      obtain ⟨i1, i2, i3⟩ := run_inv HI0.out HL.out.ok l.length (Nat.le_refl _)
      obtain ⟨S1, hS1⟩ : ∃ S1, runS l (newSt cap) l.length = S1 := ⟨_, rfl⟩
      rw [hS1] at HM i1 i2
      have hst1 : S1.steps ≤ 900 := by have : S1.steps ≤ 0 + l.length := i2; omega
      have HI1 := Lib.hid i1
      have HST1 := Lib.hid hst1
      clear hS1 i1 i2 i3 hst1
      have hres := restart_any n1 HM.out.rep HI1.out HST1.out HN.out.1.1 HN.out.1.2 ka kc ks (HK.out.fr (X := fun j => W.heap.size ≤ j) (Fr.of_below HM.out.low) (fun p hp hl e => by have := HK.out.blk hp hl; omega)) (HM.out.far HK.out)
      go_wp2_with fail
      (with_reducible refine hres.mono ?_)
      rintro e w4 ⟨rfl, g4, r4, f4, q4⟩
      have M4 := Lib.hid (HM.out.did r4 f4 q4)
      have HFX := Lib.hid (restart_facts HI1.out n1 ks)
      have HI2 := Lib.hid (HI1.out.restart n1 ks)
      obtain ⟨S2, hS2⟩ : ∃ S2, restartS n1 ks S1 = S2 := ⟨_, rfl⟩
      rw [hS2] at M4 HFX HI2
      clear r4 f4 q4 hres hS2
      have hst2 : Hid (S2.steps ≤ 900) := by show _ ≤ _; rw [HFX.out.2.2.2.2]; exact HST1.out
      have hnm := names_rep M4.out.rep hst2.out
      go_wp2_with fail
      (with_reducible refine hnm.mono ?_)
      rintro e w5 ⟨v, rfl, N5⟩
      obtain ⟨va, vc, rfl, hvc, hvc'⟩ := own_shape N5.row
      have HN5 := Lib.hid N5
      have M5 := Lib.hid (M4.out.later N5.low)
      clear N5 hnm
      have hcl := clone_any M5.out.rep HI2.out hst2.out
      go_wp2_with fail
      (with_reducible refine hcl.mono ?_)
      rintro e w6 ⟨C, gC, rfl, rC, nC, bC⟩
      have M6 := Lib.hid (M5.out.later bC)
      have MC : Hid (Mem W w6 C S2 gC) := ⟨rC, M6.out.low, fun k hk => Nat.le_trans M5.out.low.size (nC k hk)⟩
      have HA : Hid (Apart C gC B g4) := fun k h1 h2 => by have := nC k h1; have := M5.out.rep.foot_lt h2; omega
      have HNC := Lib.hid (And.intro nC bC)
      clear rC nC bC hcl
      have hres := restart_any n2 MC.out.rep HI2.out hst2.out HN.out.2.1 HN.out.2.2 ka kc ks (HK.out.fr (X := fun j => W.heap.size ≤ j) (Fr.of_below MC.out.low) (fun p hp hl e => by have := HK.out.blk hp hl; omega)) (MC.out.far HK.out)
      go_wp2_with fail
      (with_reducible refine hres.mono ?_)
      rintro e w7 ⟨rfl, g7, r7, f7, q7⟩
      have MC7 := Lib.hid (MC.out.did r7 f7 q7)
      have R7 := Lib.hid (M6.out.rep.beside HA.out f7 q7)
      have HW7 : Hid (w7.ownsRow 0 9 1 (.slice va (namesD S2.Dn).length vc) (namesD S2.Dn).length ((namesD S2.Dn).map encStr)) := by
        refine row_fr (row_fr (X := fun _ => False) HN5.out.row (Fr.of_below HNC.out.2) (fun _ _ h => h)) f7 (fun r hr e => ?_)
        have h1 := HNC.out.1 r e
        rcases HN5.out.row.2 with ⟨h0, _⟩ | ⟨gg, cap, cur, hv, _, hg, _⟩
        · rw [h0] at hr; cases hr
        · rw [hv] at hr
          have : gg = r := Option.some.inj hr
          subst this
          have := blk_lt hg
          omega
      have HTW := Lib.hid (restart_twice HFX.out.1 HFX.out.2.2.2.1 n2 ks)
      have HFX3 := Lib.hid (restart_facts HI2.out n2 ks)
      have HI3 := Lib.hid (HI2.out.restart n2 ks)
      obtain ⟨S3, hS3⟩ : ∃ S3, restartS n2 ks S2 = S3 := ⟨_, rfl⟩
      rw [hS3] at MC7 HTW HFX3 HI3
      clear r7 f7 q7 hres hS3
      have hst3 : Hid (S3.steps ≤ 900) := by show _ ≤ _; rw [HFX3.out.2.2.2.2]; exact hst2.out
      have hlost := lost_any R7.out.1.at'
      have hwait := waits_any R7.out.1.at'
      have hwl : (g4.on S2.d).wl = 0 := by show g4.l.length = 0; rw [← List.length_map (f := Prod.snd), M4.out.rep.l, HFX.out.1]; rfl
      rw [show (g4.on S2.d).lost = false from HFX.out.2.1] at hlost
      rw [hwl] at hwait
      have hnm := names_rep MC7.out.rep hst3.out
      rw [HTW.out.1] at hnm
      clear hwl
      go_wp2_with (first | (go_at_call 14; (with_reducible refine hlost.mono ?_); rintro e w8 ⟨rfl, rfl⟩) | (go_at_call 15; (with_reducible refine hwait.mono ?_); rintro e w8 ⟨rfl, rfl⟩))
      (with_reducible refine hnm.mono ?_)
      rintro e w8 ⟨v8, rfl, N8⟩
      obtain ⟨va8, vc8, rfl, -, -⟩ := own_shape N8.row
      have HB8 := Lib.hid N8.low
      have R8 := Lib.hid (R7.out.1.later N8.low)
      have MC8 := Lib.hid (MC7.out.later N8.low)
      have HW8 := Lib.hid (row_fr (X := fun _ => False) HW7.out (Fr.of_below N8.low) (fun _ _ h => h))
      clear N8 hnm hlost hwait
      obtain ⟨M, hM⟩ : ∃ M, (namesD S2.Dn).length = M := ⟨_, rfl⟩
      have HMM := Lib.hid hM
      have hMle : M ≤ 900 := by have h1 := names_len M4.out.rep.nm; have h2 := M4.out.rep.nn; have h3 := hst2.out; omega
      rw [hM] at hvc' HW8 ⊢
      clear hM
      have hMz : (M : Int) ≤ (vc : Int) := by omega
      obtain ⟨wo, hwo⟩ : ∃ wo, wo = wr := ⟨_, rfl⟩
      rw [← hwo] at HM
      clear hwo
      go_wp2_with fail
      go_loopg [84] M (fun gg i wr => ∃ k, k ≤ M ∧ M - k ≤ gg ∧ i = .int .i64 (k : Int) ∧ Hid (Below w8.heap.size w8 wr))
      case atStart => exact ⟨0, by omega, by omega, rfl, Below.refl _ _⟩
      case round =>
        obtain ⟨k, hkM, hkg, rfl, HBW⟩ := hrel
        by_cases hlt : k < M
        · have hltz : (k : Int) < (M : Int) := by omega
          have hkN : k < (namesD S2.Dn).length := by rw [HMM.out]; exact hlt
          have hrow := row_fr (X := fun _ => False) HW8.out (Fr.of_below HBW.out) (fun _ _ h => h)
          obtain ⟨r0, rfl⟩ : ∃ r0, va = some ⟨r0, 0, none⟩ := by
            rcases hrow.2 with ⟨_, h0⟩ | ⟨gg, cap, cur, hv, _⟩
            · omega
            · cases hv; exact ⟨_, rfl⟩
          have s0 : wr.cell? ⟨r0, k, none⟩ = some (.string ⟨(namesD S2.Dn)[k].toArray⟩) := by
            have := hrow.cells (g := r0) rfl k (encStr (namesD S2.Dn)[k]) (by simp [hkN])
            by_cases k0 : k = 0
            · subst k0; simpa [Addr.add] using this
            · simpa [Addr.add, k0] using this
          obtain ⟨hhas, hsl⟩ := names_has M4.out.rep.nm (List.getElem_mem hkN)
          obtain ⟨nm, hnmk⟩ : ∃ nm, (namesD S2.Dn)[k] = nm := ⟨_, rfl⟩
          rw [hnmk] at s0 hhas hsl
          clear hnmk
          obtain ⟨i, hi⟩ := HI2.out.okn.all _ hhas
          have hne2 : numD S2.Dn ⟨nm.toArray⟩ ≠ -1 := by rw [hi.num]; omega
          have hne3 : numD S3.Dn ⟨nm.toArray⟩ ≠ -1 := by rw [HTW.out.1]; exact hne2
          have e2 := bytes_ok HFX.out.2.1 HFX.out.2.2.1 hne2
          have e3 := bytes_ok HFX3.out.2.1 HFX3.out.2.2.1 hne3
          rw [HTW.out.1, HTW.out.2] at e3
          have hsm : (⟨nm.toArray⟩ : ByteArray).size ≤ maxLen := by show nm.toArray.size ≤ maxLen; simpa using hsl
          have hb2 := bytes_any ⟨nm.toArray⟩ (R8.out.later HBW.out) HI2.out hst2.out hsm
          have hb3 := fun w9 (hb : Below wr.heap.size wr w9) => bytes_any ⟨nm.toArray⟩ (MC8.out.rep.later (HBW.out.trans (hb.mono HBW.out.size))) HI3.out hst3.out hsm
          rw [e2] at hb2
          rw [e3] at hb3
          obtain ⟨bb, hbb⟩ : ∃ bb, strOf (S2.F (numD S2.Dn ⟨nm.toArray⟩).toNat).bytes = bb := ⟨_, rfl⟩
          rw [hbb] at hb2 hb3
          have HB3 := Lib.hid hb3
          have hrb : r0 < wr.heap.size := World.block_lt_of_cell? wr _ s0
          clear hkN hrow hhas hsl hi hne2 hne3 e2 e3 hsm hbb hb3
          go_wp2_with fail
          (with_reducible refine hb2.mono ?_)
          rintro e w9 ⟨rfl, b9⟩
          have hb3 := HB3.out w9 b9
          have s9 : w9.cell? ⟨r0, k, none⟩ = some (.string ⟨nm.toArray⟩) := (b9.cell (p := ⟨r0, k, none⟩) hrb).trans s0
          have HB9 := Lib.hid b9
          clear b9 hb2 s0
          go_wp2_with fail
          (with_reducible refine hb3.mono ?_)
          rintro e w10 ⟨rfl, b10⟩
          have HB10 : Hid (Below w8.heap.size w8 w10) := (HBW.out.trans (HB9.out.mono HBW.out.size)).trans (b10.mono (Nat.le_trans HBW.out.size HB9.out.size))
          clear b10 hb3 s9
          go_wp2_with fail
          go_roundg (M - (k + 1))
          case measure => omega
          case rel => exact ⟨k + 1, by omega, Nat.le_refl _, by first | rfl | go_num, HB10.out⟩
        · obtain rfl : k = M := by omega
          have hltz : ¬ (k : Int) < (k : Int) := by omega
          have HLOW : Hid (Below W.heap.size W wr) := MC8.out.low.trans (HBW.out.mono MC8.out.low.size)
          go_wp2_with fail
          go_ret
          exact ⟨rfl, HLOW.out⟩
end Go.Proofs.Ytoiggdcgfbjhpaa
