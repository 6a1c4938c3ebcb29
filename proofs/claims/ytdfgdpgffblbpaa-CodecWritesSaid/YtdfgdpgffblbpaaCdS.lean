/-
  The law CodecWrites, out of what package codec answers.
-/
import Derived.Test.YtdfgdpgffblbpaaCdZ
import Derived.BigQuiet
import Derived.Deep.DeepCutAuto
import Derived.Deep.CutBlock
namespace Go.Proofs.Ytdfgdpgffblbpaa
open Go.ChangeShapes Go.WideShapes Go.ChangeAt Go.RowKit Go.Joins
set_option linter.unusedVariables false

theorem or_add {sp : Option (List Nat)} {W x : List Nat} (h : sp = none ∨ sp = some W) : addO sp (some x) = none ∨ addO sp (some x) = some (W ++ x) := by
  rcases h with rfl | rfl
  · exact .inl rfl
  · exact .inr rfl
theorem or_text {sp : Option (List Nat)} {W B : List Nat} {y : Nat} (hy : y = B.length % 256) (h : sp = none ∨ sp = some W) : addO sp (putT B) = none ∨ addO sp (putT B) = some (W ++ [y] ++ B) := by
  unfold putT
  by_cases hb : B.length ≤ 255
  · rw [if_pos hb]
    rcases h with rfl | rfl
    · exact .inl rfl
    · have : y = B.length := by omega
      subst this
      exact .inr (by simp [addO])
  · rw [if_neg hb]
    exact .inl (addO_none sp)
theorem and255 (m : Nat) (hm : m ≤ 20000) : bits .and .i64 (m : Int) 255 = ((m % 256 : Nat) : Int) := by
  have e : ∀ n : Nat, n < 2 ^ 63 → (BitVec.ofInt 64 (n : Int)).toNat = n := fun n h => by
    rw [BitVec.toNat_ofInt]
    omega
  show IntKind.i64.wrap ((BitVec.ofInt 64 (m : Int) &&& BitVec.ofInt 64 ((255 : Nat) : Int)).toNat : Int) = _
  rw [BitVec.toNat_and, e m (by omega), e 255 (by omega)]
  have h : m &&& 255 = m % 256 := Nat.and_two_pow_sub_one_eq_mod m 8
  rw [h, IntKind.wrap_i64]
  omega
theorem one_byteU (w : World) (n : Nat) (hn : n < 256) : Sl (w.alloc (.cells #[.int .u8 (n : Int)] 5)) (some ⟨w.heap.size, 0, none⟩) 1 [n] := by
  have h0 : (w.alloc (.cells #[.int .u8 (n : Int)] 5)).heap[w.heap.size]? = some (.cells #[.int .u8 (n : Int)] 5 (0, 0)) := heap_alloc_last w _
  refine ⟨fun m hm => ?_, by simp, by unfold maxLen; omega, fun e => (by cases e), .inr ⟨w.heap.size, 0, rfl, fun j hj => ?_⟩⟩
  · simp at hm; omega
  · have hj0 : j = 0 := by simpa using hj
    subst hj0
    rw [cell_of_row _ _ _ _ _ _ h0]; rfl

set_option maxRecDepth 1000000 in
set_option maxHeartbeats 8000000 in
theorem codecWrites_main {Od : (Nat → Prop) → World → Nat → Option (List Nat) → Nat → Prop} (HC : OutC Od) {Id : Nat → (Nat → Prop) → World → Nat → Option (List Nat) → Prop} (HI : InC Id)
    (ia : Option Addr) (ic : Nat) (L : List Itm) (w : World) (hL : Its w ia ic L) (hF : fewI L = true) :
    Calls Try.prog 3 #[.slice ia L.length ic] w (TrueAnd w) := by
  have HA := Lib.hid (awake13_any HC w)
  have HO := Lib.hid HC
  have HJ := Lib.hid HI
  have HLI := Lib.hid hL
  have HFW : Hid (∀ w', Below w.heap.size w w' → Calls Try.prog 7 #[.slice ia L.length ic] w' fun e w'' => e = .returned (.bool true) ∧ w' = w'') := fun w' k => by
    have h := fewI_any ia ic L w' (hL.below k)
    rw [hF] at h; exact h
  have hL1 := hL.len
  have hL2 : ic ≤ 9223372036854775807 := by have := hL.most; unfold maxLen at this; omega
  have h100 := (fewI_iff.1 hF).1
  have HBK : Hid (bulkI L ≤ 20000) := (fewI_iff.1 hF).2
  clear HC HI hL hF
  go_enter Try.func3, Try.ntmps3
  go_wp2_with fail
  (with_reducible refine HA.out.mono ?_)
  rintro e w1 ⟨rfl, b1⟩
  have HF1 := Lib.hid (HFW.out w1 b1)
  have hst := Mid.start HO.out w1 w b1
  unfold outZ at hst
  have HST := Lib.hid hst
  clear b1 HA HFW hst
  go_wp2_with fail
  (with_reducible refine HF1.out.mono ?_)
  rintro e w2 ⟨rfl, rfl⟩
  clear HF1
  go_upto_block 0 with fail
  obtain ⟨b, hb⟩ : ∃ b, b = w1.heap.size := ⟨_, rfl⟩
  obtain ⟨w2, hw2⟩ : ∃ w2, w2 = w1.alloc (.cells #[.pointer none, .bool false] 27) := ⟨_, rfl⟩
  rw [← hw2] at HST ⊢
  rw [← hb] at HST ⊢
  clear hb hw2
  have H0 : Hid (Mid Od w b (bulkI (L.take 0) + 6 * 0) w2 (.slice none 0 0) (outOf (L.take 0)) []) := HST.out
  have HW0 : Hid (outOf (L.take 0) = none ∨ outOf (L.take 0) = some []) := .inr rfl
  go_cut [4, 5] (fun s4 s5 wx => ∃ (W : List Nat), s5 = .bool (outOf L).isNone ∧ Hid (Mid Od w b (bulkI L + 6 * L.length) wx s4 (outOf L) W) ∧ Hid (outOf L = none ∨ outOf L = some W) ∧ W.length ≤ 21000)
  case first =>
    go_wp2_with fail
    go_loopw [4, 5, 23] (fun s4 s5 i wr => ∃ (k : Nat) (W : List Nat), k ≤ L.length ∧ s5 = .bool (outOf (L.take k)).isNone ∧ i = .int .i64 k ∧ Hid (Mid Od w b (bulkI (L.take k) + 6 * k) wr s4 (outOf (L.take k)) W) ∧ Hid (outOf (L.take k) = none ∨ outOf (L.take k) = some W) ∧ W.length ≤ bulkI (L.take k) + 6 * k) (fun _ _ i _ => L.length - (intOf i).toNat)
    case atStart => exact ⟨0, [], by omega, rfl, rfl, H0, HW0, by simp⟩
    case round =>
      obtain ⟨k, W, hk, rfl, rfl, HM, HW, hWl⟩ := hrel
      clear H0 HW0 HST
      by_cases hlt : k < L.length
      · obtain ⟨ib, io, rfl, hib, ba, bc, y0, y1, y2, y3, tsl⟩ := its_one HLI.out hlt
        have t0 := (HM.out.below.cell (p := ⟨ib, io + k * 4, none⟩) hib).trans y0
        have t1 := (HM.out.below.cell (p := ⟨ib, io + k * 4 + 1, none⟩) hib).trans y1
        have t2 := (HM.out.below.cell (p := ⟨ib, io + k * 4 + 2, none⟩) hib).trans y2
        have t3 := (HM.out.below.cell (p := ⟨ib, io + k * 4 + 3, none⟩) hib).trans y3
        clear y0 y1 y2 y3
        have hkz : (k : Int) < (L.length : Int) := by omega
        have HNX := Lib.hid (outOf_next hlt)
        have HBN := Lib.hid (bulk_take hlt)
        have HBL := Lib.hid (bulk_le L (k + 1))
        have HIO := Lib.hid (HLI.out.rng _ (List.getElem_mem hlt))
        obtain ⟨x, hx⟩ : ∃ x, x = L[k] := ⟨_, rfl⟩
        rw [← hx] at t0 t1 t2 t3 tsl HNX HBN HIO
        clear hx
        obtain ⟨kd, z, n, B⟩ := x
        simp only at t0 t1 t2 t3 tsl HBN
        obtain ⟨g1, g2, g3, g4⟩ := HIO.out
        simp only at g1 g2 g3 g4
        obtain ⟨g21, g22⟩ := g2
        obtain ⟨g31, g32⟩ := g3
        obtain ⟨sp, hsp⟩ : ∃ sp, sp = outOf (L.take k) := ⟨_, rfl⟩
        rw [← hsp] at HM HW HNX ⊢
        clear hsp
        have HBX := Lib.hid (HM.out.box HO.out #[.int .u8 (kd : Int), .int .i64 z, .int .i64 n, .slice ba B.length bc] 30)
        have HTS := Lib.hid tsl
        have HBB : Hid (bulkI L ≤ 20000) := HBK.out
        have hW21 : W.length ≤ 20600 := by have := HBL.out; have := HBB.out; have := HBN.out; omega
        clear HM tsl HIO
        go_upto_region 12 with fail
        obtain ⟨wb, hwb⟩ : ∃ wb, wb = wr.alloc (.cells #[.int .u8 (kd : Int), .int .i64 z, .int .i64 n, .slice ba B.length bc] 30) := ⟨_, rfl⟩
        obtain ⟨p7, hp7⟩ : ∃ p7, p7 = wr.heap.size := ⟨_, rfl⟩
        rw [← hwb, ← hp7] at HBX
        rw [← hwb, ← hp7]
        clear hwb hp7 t0 t1 t2 t3
        have c0 := cell_of_block (i := 0) HBX.out.box
        have c1 := cell_of_block (i := 1) HBX.out.box
        have c2 := cell_of_block (i := 2) HBX.out.box
        have c3 := cell_of_block (i := 3) HBX.out.box
        simp only [List.getElem?_toArray, List.getElem?_cons_zero, List.getElem?_cons_succ] at c0 c1 c2 c3
        by_cases hk3 : (kd : Int) < 3
        · have d3 : decide ((kd : Int) < 3) = true := decide_eq_true hk3
          have HPI : Hid (putI ⟨kd, z, n, B⟩ = putN z n) := by
            show _ = _
            unfold putI
            rw [if_pos (show kd < 3 by omega)]
          rw [HPI.out] at HNX
          have HPN := Lib.hid (HBX.out.put HO.out (q' := bulkI (L.take k) + 6 * k + 6) (s' := addO sp (putN z n)) fun X hX => HO.out.n X wb b sp _ z n hX (by have := HBL.out; have := HBB.out; have := HBN.out; omega) ⟨g21, g22⟩ ⟨g31, g32⟩)
          go_wp2_with fail
          (with_reducible refine HPN.out.mono ?_)
          rintro e w3 ⟨rfl, hm3⟩
          have HM3 := Lib.hid hm3
          have e0 := cell_of_block (i := 0) hm3.box
          have e1 := cell_of_block (i := 1) hm3.box
          have e2 := cell_of_block (i := 2) hm3.box
          simp only [List.getElem?_toArray, List.getElem?_cons_zero, List.getElem?_cons_succ] at e0 e1 e2
          clear hm3 HPN HBX HPI c0 c1 c2 c3
          by_cases q1 : n < 1
          · have d1 : decide (n < 1) = true := decide_eq_true q1
            have HE : Hid (addO sp (putN z n) = none) := by
              show _ = _
              unfold putN
              rw [if_neg (by omega), addO_none]
            rw [HE.out] at HNX HM3
            clear HE
            clear q1
            go_wp2_with fail
            go_roundw
            case rel => exact ⟨k + 1, W, by omega, by rw [HNX.out]; rfl, by go_num, by rw [HNX.out]; exact (HM3.out.mono HO.out (by have := HBN.out; omega)).mid, by rw [HNX.out]; exact .inl rfl, by have := HBN.out; omega⟩
            case measure => simp [intOf]; omega
          · have d1 : decide (n < 1) = false := decide_eq_false q1
            by_cases q2 : 6 < n
            · have d2 : decide (6 < n) = true := decide_eq_true q2
              have HE : Hid (addO sp (putN z n) = none) := by
                show _ = _
                unfold putN
                rw [if_neg (by omega), addO_none]
              rw [HE.out] at HNX HM3
              clear HE
              clear q2
              go_wp2_with fail
              go_roundw
              case rel => exact ⟨k + 1, W, by omega, by rw [HNX.out]; rfl, by go_num, by rw [HNX.out]; exact (HM3.out.mono HO.out (by have := HBN.out; omega)).mid, by rw [HNX.out]; exact .inl rfl, by have := HBN.out; omega⟩
              case measure => simp [intOf]; omega
            · have d2 : decide (6 < n) = false := decide_eq_false q2
              by_cases q3 : z < 0
              · have d4 : decide (z < 0) = true := decide_eq_true q3
                have HE : Hid (addO sp (putN z n) = none) := by
                  show _ = _
                  unfold putN
                  rw [if_neg (by omega), addO_none]
                rw [HE.out] at HNX HM3
                clear HE
                clear q3
                go_wp2_with fail
                go_roundw
                case rel => exact ⟨k + 1, W, by omega, by rw [HNX.out]; rfl, by go_num, by rw [HNX.out]; exact (HM3.out.mono HO.out (by have := HBN.out; omega)).mid, by rw [HNX.out]; exact .inl rfl, by have := HBN.out; omega⟩
                case measure => simp [intOf]; omega
              · have d4 : decide (z < 0) = false := decide_eq_false q3
                obtain ⟨V, rfl⟩ : ∃ V : Nat, z = (V : Int) := ⟨z.toNat, by omega⟩
                obtain ⟨N, rfl⟩ : ∃ N : Nat, n = (N : Int) := ⟨n.toNat, by omega⟩
                obtain ⟨P, hP⟩ : ∃ P : Nat, P = 256 ^ N := ⟨_, rfl⟩
                have hP2 : P ≤ 281474976710656 := by rw [hP]; exact pow6 (by omega)
                have hpow : (2 : Int) ^ (8 * N) = (P : Int) := by
                  rw [Int.pow_mul, hP]
                  simp
                have hw64 : wrap64 (2 ^ (8 * N)) = (P : Int) := by
                  rw [hpow, IntWalk.wrap64_in]
                  omega
                have HPP := Lib.hid hP
                have hN6 : N ≤ 6 := by clear hw64; omega
                have hN1 : (1 : Int) ≤ (N : Int) := by clear hw64; omega
                have hN2 : (N : Int) ≤ 6 := by clear hw64; omega
                have hV0 : (0 : Int) ≤ (V : Int) := Int.natCast_nonneg V
                clear hP hpow
                by_cases q4 : V < P
                · have d5 : decide ((P : Int) ≤ (V : Int)) = false := decide_eq_false (Int.not_le.2 (Int.ofNat_lt.2 q4))
                  have q5 : ¬ P ≤ V := Nat.not_le.2 q4
                  have d6 : decide (P ≤ V) = false := decide_eq_false q5
                  have HE : Hid (putN (V : Int) (N : Int) = some (wideN V N)) := by
                    show _ = _
                    have h4 := q4
                    rw [HPP.out] at h4
                    unfold putN
                    rw [if_pos ⟨hN1, hN2, hV0, by rw [Int.toNat_natCast]; exact_mod_cast h4⟩]
                    simp
                  rw [HE.out] at HNX HM3
                  have hwl : (wideN V N).length = N := wideN_len _ _
                  have HWD := Lib.hid (wide_any V N w3 (Nat.lt_of_lt_of_le q4 (Nat.le_trans hP2 (by decide))) hN6)
                  have HBY := Lib.hid (wideN_byte N V)
                  have HWL := Lib.hid hwl
                  clear HE hwl
                  go_wp2_with fail
                  clear hw64 d5 d6
                  (with_reducible refine HWD.out.mono ?_)
                  rintro e w4 ⟨rfl, hn4⟩
                  have HM4 := Lib.hid (HM3.out.later HO.out hn4.below)
                  have hs4 : Sl w4 (some ⟨w3.heap.size, 0, none⟩) N (wideN V N) := by
                    have h := hn4
                    rw [← HWL.out] at h
                    have := NewTo.sl (by rw [HWL.out] at h ⊢; exact h) HBY.out (by rw [HWL.out]; exact Nat.le_trans hN6 (by decide))
                    rw [HWL.out] at this
                    exact this
                  have HS4 := Lib.hid hs4
                  clear hn4 hs4 HWD HM3 e0 e1 e2
                  have hq6 : bulkI (L.take k) + 6 * k + 6 ≤ bulkI (L.take (k + 1)) + 6 * (k + 1) := by have := HBN.out; omega
                  go_wp2_with (at_builtin; refine wpList_addB _ rfl _ _ rfl u4 W rfl HM4.out.own (some ⟨w3.heap.size, 0, none⟩) N N (wideN V N) rfl HWL.out HS4.out (by rw [HWL.out]; omega) ?_; intro v5 w5 HO5 hg5 he5)
                  have HM5 := Lib.hid ((HM4.out.add HO.out HO5.out hg5.out he5.out).mono HO.out hq6)
                  clear HO5 hg5 he5 HM4 HS4
                  go_roundw
                  case rel => exact ⟨k + 1, W ++ wideN V N, by omega, by rw [HNX.out]; cases sp <;> rfl, by go_num, by rw [HNX.out]; exact HM5.out.mid, by rw [HNX.out]; exact or_add HW.out, by rw [List.length_append, HWL.out]; omega⟩
                  case measure => simp [intOf]; omega
                · have d5 : decide ((P : Int) ≤ (V : Int)) = true := decide_eq_true (Int.ofNat_le.2 (Nat.le_of_not_lt q4))
                  have q5 : P ≤ V := Nat.le_of_not_lt q4
                  have d6 : decide (P ≤ V) = true := decide_eq_true q5
                  have HE : Hid (addO sp (putN (V : Int) (N : Int)) = none) := by
                    show _ = _
                    unfold putN
                    rw [if_neg fun e => q4 (by
                      have := e.2.2.2
                      rw [Int.toNat_natCast] at this
                      rw [HPP.out]
                      exact_mod_cast this), addO_none]
                  rw [HE.out] at HNX HM3
                  clear HE q4
                  go_wp2_with fail
                  clear hw64 d5 d6 q5
                  go_roundw
                  case rel => exact ⟨k + 1, W, by omega, by rw [HNX.out]; rfl, by go_num, by rw [HNX.out]; exact (HM3.out.mono HO.out (by have := HBN.out; omega)).mid, by rw [HNX.out]; exact .inl rfl, by have := HBN.out; omega⟩
                  case measure => simp [intOf]; omega
        · have d3 : decide ((kd : Int) < 3) = false := decide_eq_false hk3
          have hBl : bulkI (L.take k) + B.length ≤ 20000 := by have := HBL.out; have := HBB.out; have := HBN.out; omega
          have HSB := Lib.hid (HTS.out.below HBX.out.below)
          have hbc := HTS.out.len
          have hbm : bc ≤ 9223372036854775807 := by have := HTS.out.most; unfold maxLen at this; omega
          by_cases hk4 : (kd : Int) = 3
          · have d4 : ((kd : Int) == 3) = true := beq_iff_eq.2 hk4
            have d5 : (kd == 3) = true := beq_iff_eq.2 (by omega)
            have HPI : Hid (putI ⟨kd, z, n, B⟩ = putT B) := by
              show _ = _
              unfold putI
              rw [if_neg (show ¬ kd < 3 by omega), if_pos (show kd = 3 by omega)]
            rw [HPI.out] at HNX
            have hcv := conv_sl wb ba bc B HSB.out
            have HPT := Lib.hid (HBX.out.put HO.out (q' := bulkI (L.take k) + 6 * k + B.length + 6) (s' := addO sp (putT B)) fun X hX => HO.out.text X wb b sp _ B hX (by omega) HTS.out.byte (by omega))
            clear HPI HSB
            go_wp2_with fail
            (with_reducible refine HPT.out.mono ?_)
            rintro e w3 ⟨rfl, hm3⟩
            have HM3 := Lib.hid hm3
            have e3 := cell_of_block (i := 3) hm3.box
            simp only [List.getElem?_toArray, List.getElem?_cons_zero, List.getElem?_cons_succ] at e3
            clear hm3 HPT HBX c0 c1 c2 c3 hcv
            go_upto_region 19 with fail
            go_cut [5] (fun s5 wx => s5 = .bool (addO sp (putT B)).isNone ∧ w3 = wx)
            case first =>
              have HP5 : Hid ((addO sp (putT B)).isNone = (sp.isNone || decide (255 < B.length))) := by
                show _ = _
                unfold putT
                by_cases h : B.length ≤ 255
                · rw [if_pos h, decide_eq_false (by omega)]
                  cases sp <;> rfl
                · rw [if_neg h, decide_eq_true (by omega), addO_none]
                  simp
              obtain ⟨sb, hsb⟩ : ∃ sb, sb = sp.isNone := ⟨_, rfl⟩
              rw [← hsb] at HP5
              rw [← hsb]
              clear hsb
              cases sb with
              | true =>
                go_wp2_with fail
                go_meet
                exact ⟨by rw [HP5.out]; rfl, rfl⟩
              | false =>
                by_cases h255 : 255 < B.length
                · have d6 : decide (255 < B.length) = true := decide_eq_true h255
                  have d7 : decide ((255 : Int) < (B.length : Int)) = true := decide_eq_true (by omega)
                  go_wp2_with fail
                  go_meet
                  exact ⟨by rw [HP5.out, decide_eq_true h255]; rfl, rfl⟩
                · have d6 : decide (255 < B.length) = false := decide_eq_false h255
                  have d7 : decide ((255 : Int) < (B.length : Int)) = false := decide_eq_false (by omega)
                  go_wp2_with fail
                  go_meet
                  exact ⟨by rw [HP5.out, decide_eq_false h255]; rfl, rfl⟩
            case rest =>
              obtain ⟨rfl, rfl⟩ := hcut
              obtain ⟨wd, hwd⟩ : ∃ wd, wd = w3.drew := ⟨_, rfl⟩
              have HMD : Hid (MidB Od w b (bulkI (L.take k) + 6 * k + B.length + 6) p7 (.cells #[.int .u8 (kd : Int), .int .i64 z, .int .i64 n, .slice ba B.length bc] 30 (0, 0)) wd u4 (addO sp (putT B)) W) := by rw [hwd]; exact HM3.out.later HO.out (Below.refl _ _).drew
              have k3 : ∀ u : KeepW wd (fun j => u4.ownBlock = some j), u.v.cell? ⟨p7, 3, none⟩ = some (.slice ba B.length bc) := fun u => (u.cell HMD.out.blk fun e => (HMD.out.low p7 e).2 rfl).trans (by rw [cell_of_block HMD.out.box]; rfl)
              obtain ⟨y, hy⟩ : ∃ y, y = B.length % 256 := ⟨_, rfl⟩
              have hand := and255 B.length (by omega)
              rw [← hy] at hand
              have hy2 : y < 256 := by omega
              have HYE := Lib.hid hy
              have hq6 : bulkI (L.take k) + 6 * k + B.length + 6 ≤ bulkI (L.take (k + 1)) + 6 * (k + 1) := by have := HBN.out; omega
              clear e3 HM3 hy
              go_wp2_with fail
              refine growK_begin 11 (fun w' => ∃ u : KeepW wd (fun j => u4.ownBlock = some j), w' = u.v) (by kernel_rfl) ?_
              rw [← hwd]
              clear hwd
              refine growK_take (by kernel_rfl) [0, 1, 2, 3, 4, 5, 8, 9] 4 _ _ (by kernel_rfl) _ (keep_class (Fr.refl _ _)) ?_
              simp only [opsAt, List.getElem?_toArray, List.getElem?_cons_succ, List.getElem?_cons_zero]
              repeat (first | go_big_quiet_step (fail) | quiet_step (fail))
              refine wpQuiet_nil ?_
              clear k3 hand
              have HB5 : Hid (Below wd.heap.size wd (wd.alloc (.cells #[.int .u8 (y : Int)] 5))) := (Below.refl _ _).alloc (Nat.le_refl _) _
              have HM5 := Lib.hid (HMD.out.later HO.out HB5.out)
              have HY5 := Lib.hid (one_byteU wd y hy2)
              refine growK_one 6 (by kernel_rfl) (fun K hK => ?_)
              simp only [stepOf, List.getElem?_toArray, List.getElem?_cons_succ, List.getElem?_cons_zero]
              go_simp
              refine hK.out _ _ (keep_class (Fr.of_below HB5.out)) ?_
              clear hK K
              refine growK_one 7 (by kernel_rfl) (fun K hK => ?_)
              simp only [stepOf, List.getElem?_toArray, List.getElem?_cons_succ, List.getElem?_cons_zero]
              rw [if_pos (by rfl)]
              refine wp_addB _ (.tmp 92) (.tmp 98) rfl u4 W rfl HM5.out.own (some ⟨wd.heap.size, 0, none⟩) 1 1 [y] rfl rfl HY5.out (by simp; omega) ?_
              intro v6 w6 o6 g6 e6
              have F6 : Hid (Fr (fun j => u4.ownBlock = some j) wd w6) := (Fr.of_below HB5.out).trans (Fr.of_grown g6.out fun b e => e)
              have HM6 := Lib.hid (HM5.out.add HO.out o6.out g6.out e6.out)
              refine hK.out _ _ (keep_class F6.out) ?_
              clear hK K o6 g6
              refine growK_one 10 (by kernel_rfl) (fun K hK => ?_)
              simp only [stepOf, List.getElem?_toArray, List.getElem?_cons_succ, List.getElem?_cons_zero]
              rw [if_pos (by rfl)]
              refine wp_addB _ (.tmp 99) (.tmp 101) rfl v6 (W ++ [y]) rfl HM6.out.own ba bc B.length B rfl rfl (HTS.out.below HM6.out.below) (by simp; omega) ?_
              intro v7 w7 o7 g7 e7
              have F7 : Hid (Fr (fun j => u4.ownBlock = some j) wd w7) := F6.out.over (Fr.of_grown (X := fun j => v6.ownBlock = some j) g7.out fun b e => e) fun j hj => by
                rcases e6.out with h | h
                · rw [h] at hj; exact .inl hj
                · rw [h] at hj
                  have := Option.some.inj hj
                  have := HB5.out.size
                  exact .inr (by omega)
              have HM7 := Lib.hid ((HM6.out.add HO.out o7.out g7.out e7.out).mono HO.out hq6)
              refine hK.out _ _ (keep_class F7.out) ?_
              clear hK K o7 g7 e7 e6 F6 HM6 HM5
              refine growK_last (by kernel_rfl) (by kernel_rfl) (fun K hK => ?_)
              simp only [stepOf, List.getElem?_toArray, List.getElem?_cons_succ, List.getElem?_cons_zero]
              go_simp
              refine hK.out _ _ ?_
              clear hK K F7
              go_wp2_with fail
              go_roundw
              case rel => exact ⟨k + 1, W ++ [y] ++ B, by omega, by rw [HNX.out], by go_num, by rw [HNX.out]; exact HM7.out.mid, by rw [HNX.out]; exact or_text HYE.out HW.out, by simp only [List.length_append, List.length_singleton]; omega⟩
              case measure => simp [intOf]; omega
          · have d4 : ((kd : Int) == 3) = false := beq_eq_false_iff_ne.2 hk4
            have d5 : (kd == 3) = false := beq_eq_false_iff_ne.2 (by omega)
            have HPI : Hid (putI ⟨kd, z, n, B⟩ = some B) := by
              show _ = _
              unfold putI
              rw [if_neg (show ¬ kd < 3 by omega), if_neg (show ¬ kd = 3 by omega)]
            rw [HPI.out] at HNX
            have HPT := Lib.hid (HBX.out.put HO.out (q' := bulkI (L.take k) + 6 * k + B.length) (s' := addO sp (some B)) fun X hX => HO.out.raw X wb b sp _ ba bc B hX (by omega) HSB.out (by omega))
            clear HPI HSB
            go_wp2_with fail
            (with_reducible refine HPT.out.mono ?_)
            rintro e w3 ⟨rfl, hm3⟩
            have HM3 := Lib.hid hm3
            have e3 := cell_of_block (i := 3) hm3.box
            simp only [List.getElem?_toArray, List.getElem?_cons_zero, List.getElem?_cons_succ] at e3
            have hq6 : bulkI (L.take k) + 6 * k + B.length ≤ bulkI (L.take (k + 1)) + 6 * (k + 1) := by have := HBN.out; omega
            clear hm3 HPT HBX c0 c1 c2 c3
            go_wp2_with (at_builtin; refine wpList_addB _ rfl _ _ rfl u4 W rfl HM3.out.own ba bc B.length B rfl rfl (HTS.out.below HM3.out.below) (by omega) ?_; intro v5 w5 HO5 hg5 he5)
            have HM5 := Lib.hid ((HM3.out.add HO.out HO5.out hg5.out he5.out).mono HO.out hq6)
            clear HO5 hg5 he5 HM3
            go_roundw
            case rel => exact ⟨k + 1, W ++ B, by omega, by rw [HNX.out]; cases sp <;> rfl, by go_num, by rw [HNX.out]; exact HM5.out.mid, by rw [HNX.out]; exact or_add HW.out, by rw [List.length_append]; omega⟩
            case measure => simp [intOf]; omega
      · obtain rfl : k = L.length := by omega
        rw [List.take_length] at HM HW hWl ⊢
        have h2 := HBK.out
        go_wp2_with fail
        go_meet
        exact ⟨W, rfl, HM, HW, by omega⟩
  case rest =>
    obtain ⟨W, rfl, HM, HW, hWl⟩ := hcut
    clear H0 HW0 HST
    have HCT := Lib.hid (outOf_cat L)
    obtain ⟨so, hso⟩ : ∃ so, so = outOf L := ⟨_, rfl⟩
    rw [← hso] at HM HW HCT ⊢
    clear hso
    have hq4 : bulkI L + 6 * L.length ≤ 40000 := by have := HBK.out; omega
    obtain ⟨X, hod, _⟩ := HM.out.od
    cases so with
    | none =>
      have HEB := Lib.hid (HO.out.endBad X wc b _ hod hq4)
      have HB1 := Lib.hid HM.out.below
      clear hod HM HW HCT
      go_wp2_with fail
      (with_reducible refine HEB.out.mono ?_)
      rintro e w3 ⟨a3, c3, rfl, b3⟩
      have HB3 := Lib.hid (HB1.out.trans (b3.mono HB1.out.size))
      clear b3 HB1 HEB
      go_wp2_with fail
      go_ret
      exact ⟨rfl, HB3.out⟩
    | some W' =>
      obtain rfl : W' = W := by
        rcases HW.out with e | e
        · cases e
        · exact Option.some.inj e
      have HEK := Lib.hid (HO.out.endOk X wc b _ _ hod hq4)
      clear hod HW
      go_wp2_with fail
      (with_reducible refine HEK.out.mono ?_)
      rintro e w3 ⟨a3, c3, rfl, hs3, b3⟩
      have HM3 := Lib.hid (HM.out.later HO.out b3)
      obtain ⟨aw, cw, rfl, hsw, _⟩ := HM3.out.own.sl hs3.byte
      have HNW := Lib.hid (HJ.out.new w3 a3 c3 W' hs3 (by omega))
      have HS3 := Lib.hid hs3
      have HB3 := Lib.hid HM3.out.below
      obtain ⟨S, hS⟩ : ∃ S, S = strOf W' := ⟨_, rfl⟩
      have cv1 := conv_sl w3 a3 c3 W' hs3
      have cv2 := conv_sl w3 aw cw W' hsw
      rw [← hS] at cv1 cv2
      clear hs3 hsw b3 HEK HM HM3 hS
      go_wp2_with fail
      (with_reducible refine HNW.out.mono ?_)
      rintro e w4 ⟨bi, Xi, rfl, hid, b4⟩
      obtain ⟨B0, hB0⟩ : ∃ B0, B0 = w3.heap.size := ⟨_, rfl⟩
      have hwB : w.heap.size ≤ B0 := by have := HB3.out.size; omega
      rw [← hB0] at hid
      have HB4 := Lib.hid (HB3.out.trans (b4.mono HB3.out.size))
      have HI0 : Hid (∃ m, catI (L.drop 0) = some m ∧ ∃ X, Id B0 X w4 bi (some m)) := ⟨W', by rw [List.drop_zero]; exact HCT.out.symm, Xi, hid⟩
      clear hid b4 HNW HB3 HCT cv1 cv2 HS3 hB0
      go_wp2_with fail
      go_loopw [129] (fun i wr => ∃ k : Nat, k ≤ L.length ∧ i = .int .i64 k ∧ Hid (∃ m, catI (L.drop k) = some m ∧ ∃ X, Id B0 X wr bi (some m)) ∧ Hid (Below w.heap.size w wr)) (fun i _ => L.length - (intOf i).toNat)
      case atStart => exact ⟨0, by omega, rfl, HI0, HB4⟩
      case round =>
        obtain ⟨k, hk, rfl, HI, HB⟩ := hrel
        clear HI0 HB4
        obtain ⟨m, hm, X, hid⟩ := HI.out
        by_cases hlt : k < L.length
        · obtain ⟨ib, io, rfl, hib, ba, bc, y0, y1, y2, y3, tsl⟩ := its_one HLI.out hlt
          have t0 := (HB.out.cell (p := ⟨ib, io + k * 4, none⟩) hib).trans y0
          have t1 := (HB.out.cell (p := ⟨ib, io + k * 4 + 1, none⟩) hib).trans y1
          have t2 := (HB.out.cell (p := ⟨ib, io + k * 4 + 2, none⟩) hib).trans y2
          have t3 := (HB.out.cell (p := ⟨ib, io + k * 4 + 3, none⟩) hib).trans y3
          clear y0 y1 y2 y3
          have hkz : (k : Int) < (L.length : Int) := by omega
          have hcd := cat_drop hlt
          rw [hm] at hcd
          have HIO := Lib.hid (HLI.out.rng _ (List.getElem_mem hlt))
          obtain ⟨x, hx⟩ : ∃ x, x = L[k] := ⟨_, rfl⟩
          rw [← hx] at t0 t1 t2 t3 tsl hcd HIO
          clear hx
          obtain ⟨xb, r, hxb, hcr, rfl⟩ := addO_some hcd.symm
          have HXB := Lib.hid hxb
          have HCR := Lib.hid hcr
          obtain ⟨kd, z, n, B⟩ := x
          simp only at t0 t1 t2 t3 tsl
          obtain ⟨g1, g2, g3, g4⟩ := HIO.out
          simp only at g1 g2 g3 g4
          obtain ⟨g21, g22⟩ := g2
          obtain ⟨g31, g32⟩ := g3
          have HTS := Lib.hid tsl
          have hxl := HJ.out.lt hid
          have h1 : Below wr.heap.size wr (wr.alloc (.cells #[.int .u8 (kd : Int), .int .i64 z, .int .i64 n, .slice ba B.length bc] 30)) := (Below.refl _ _).alloc (Nat.le_refl _) _
          have HID := Lib.hid (HJ.out.keep hid (Fr.of_below (X := fun _ => False) h1) (fun _ _ h => h) (fun _ _ h => h))
          have HBB : Hid (Below w.heap.size w _) := HB.out.trans (h1.mono HB.out.size)
          have hbox : (wr.alloc (.cells #[.int .u8 (kd : Int), .int .i64 z, .int .i64 n, .slice ba B.length bc] 30)).heap[wr.heap.size]? = some (.cells #[.int .u8 (kd : Int), .int .i64 z, .int .i64 n, .slice ba B.length bc] 30 (0, 0)) := heap_alloc_last wr _
          have HBOX := Lib.hid hbox
          have HXP : Hid (∀ j, X j → B0 ≤ j ∧ j ≠ wr.heap.size) := fun j hj => ⟨(hxl j hj).1, by have := (hxl j hj).2; omega⟩
          have hbl := HTS.out.len
          have hbm : bc ≤ 9223372036854775807 := by have := HTS.out.most; unfold maxLen at this; omega
          clear HI hid hxl h1 hbox hcd hm hxb hcr tsl HIO
          go_upto_region 32 with fail
          obtain ⟨wb, hwb⟩ : ∃ wb, wb = wr.alloc (.cells #[.int .u8 (kd : Int), .int .i64 z, .int .i64 n, .slice ba B.length bc] 30) := ⟨_, rfl⟩
          obtain ⟨p7, hp7⟩ : ∃ p7, p7 = wr.heap.size := ⟨_, rfl⟩
          rw [← hwb] at HBOX HID HBB ⊢
          rw [← hp7] at HBOX HXP ⊢
          clear hwb hp7 t0 t1 t2 t3 HB
          have c0 := cell_of_block (i := 0) HBOX.out
          simp only [List.getElem?_toArray, List.getElem?_cons_zero] at c0
          obtain ⟨wd, hwd⟩ : ∃ wd, wd = wb.drew := ⟨_, rfl⟩
          have HIDd : Hid (Id B0 X wd bi (some (xb ++ r))) := by rw [hwd]; exact HJ.out.keep HID.out (Fr.of_below (X := fun _ => False) (Below.refl _ _).drew) (fun _ _ h => h) (fun _ _ h => h)
          have HBD : Hid (Below w.heap.size w wd) := by rw [hwd]; exact HBB.out.drew
          have hpd : p7 < wd.heap.size := by rw [hwd]; exact (Array.getElem?_eq_some_iff.1 HBOX.out).1
          have hxp7 : ¬ X p7 := fun e => (HXP.out p7 e).2 rfl
          have hbd : wd.heap[p7]? = some (.cells #[.int .u8 (kd : Int), .int .i64 z, .int .i64 n, .slice ba B.length bc] 30 (0, 0)) := by rw [hwd]; exact HBOX.out
          have k1 : ∀ u : KeepW wd X, u.v.cell? ⟨p7, 1, none⟩ = some (.int .i64 z) := fun u => (u.cell hpd hxp7).trans (by rw [cell_of_block hbd]; rfl)
          have k2 : ∀ u : KeepW wd X, u.v.cell? ⟨p7, 2, none⟩ = some (.int .i64 n) := fun u => (u.cell hpd hxp7).trans (by rw [cell_of_block hbd]; rfl)
          have k3 : ∀ u : KeepW wd X, u.v.cell? ⟨p7, 3, none⟩ = some (.slice ba B.length bc) := fun u => (u.cell hpd hxp7).trans (by rw [cell_of_block hbd]; rfl)
          have KBL : Hid (∀ w', Fr X wd w' → Below w.heap.size w w') := fun w' h => HBD.out.trans (h.below HBD.out.size fun j hj hX => by have := (HXP.out j hX).1; omega)
          have kcv : ∀ u : KeepW wd X, (convert 28 9 (.slice ba B.length bc)).run Try.prog u.v = .ok (.string (strOf B)) u.v := fun u => conv_sl _ _ _ _ (HTS.out.below (by
            have := KBL.out u.v u.h
            exact this))
          obtain ⟨S, hS⟩ : ∃ S, S = strOf B := ⟨_, rfl⟩
          rw [← hS] at kcv
          have HSE := Lib.hid hS
          clear HBOX hbd HID HBB hS
          by_cases hk3 : (kd : Int) < 3
          · have d3 : decide ((kd : Int) < 3) = true := decide_eq_true hk3
            have hput : putN z n = some xb := by
              have := HXB.out
              unfold putI at this
              rwa [if_pos (show kd < 3 by omega)] at this
            obtain ⟨r1, r2⟩ := back_n (r := r) hput
            have HCL := HJ.out.n B0 X wd bi _ n HIDd.out ⟨g31, g32⟩
            rw [r1, r2] at HCL
            have HCL := Lib.hid HCL
            clear hput r1 r2 kcv k3
            go_wp2_with fail
            refine growK_begin 6 (fun w' => ∃ u : KeepW wd X, w' = u.v) (by kernel_rfl) ?_
            rw [← hwd]
            clear hwd
            refine growK_take (by kernel_rfl) [0, 1, 2, 4, 5] 2 _ _ (by kernel_rfl) _ (keep_class (Fr.refl _ _)) ?_
            simp only [opsAt, List.getElem?_toArray, List.getElem?_cons_succ, List.getElem?_cons_zero]
            repeat (first | go_big_quiet_step (fail) | quiet_step (fail))
            refine wpQuiet_nil ?_
            clear k1 k2
            refine growK_one 3 (by kernel_rfl) (fun K hK => ?_)
            simp only [stepOf, List.getElem?_toArray, List.getElem?_cons_succ, List.getElem?_cons_zero]
            go_simp
            go_at_call 14
            (with_reducible refine HCL.out.mono ?_)
            rintro e w9 ⟨rfl, X9, hid9, hx9, hf9⟩
            have HB9 := Lib.hid (KBL.out w9 hf9)
            have HI9 : Hid (∃ m, catI (L.drop (k + 1)) = some m ∧ ∃ X, Id B0 X w9 bi (some m)) := ⟨r, HCR.out, X9, hid9⟩
            refine hK.out _ _ (keep_class hf9) ?_
            clear hK K HCL hid9 hx9 hf9
            refine growK_last (by kernel_rfl) (by kernel_rfl) (fun K hK => ?_)
            simp only [stepOf, List.getElem?_toArray, List.getElem?_cons_succ, List.getElem?_cons_zero]
            go_simp
            refine hK.out _ _ ?_
            clear hK K
            go_wp2_with fail
            go_roundw
            case rel => exact ⟨k + 1, by omega, by go_num, HI9, HB9⟩
            case measure => simp [intOf]; omega
          · have d3 : decide ((kd : Int) < 3) = false := decide_eq_false hk3
            by_cases hk4 : (kd : Int) = 3
            · have d4 : ((kd : Int) == 3) = true := beq_iff_eq.2 hk4
              have d5 : (kd == 3) = true := beq_iff_eq.2 (by omega)
              have hput : putT B = some xb := by
                have := HXB.out
                unfold putI at this
                rwa [if_neg (show ¬ kd < 3 by omega), if_pos (show kd = 3 by omega)] at this
              obtain ⟨r1, r2⟩ := back_t (r := r) hput
              have HCL := HJ.out.text B0 X wd bi _ HIDd.out
              rw [r1, r2, ← HSE.out] at HCL
              have HCL := Lib.hid HCL
              clear hput r1 r2 k1 k2
              go_wp2_with fail
              refine growK_begin 5 (fun w' => ∃ u : KeepW wd X, w' = u.v) (by kernel_rfl) ?_
              rw [← hwd]
              clear hwd
              refine growK_take (by kernel_rfl) [0, 2, 3, 4] 2 _ _ (by kernel_rfl) _ (keep_class (Fr.refl _ _)) ?_
              simp only [opsAt, List.getElem?_toArray, List.getElem?_cons_succ, List.getElem?_cons_zero]
              repeat (first | go_big_quiet_step (fail) | quiet_step (fail))
              refine wpQuiet_nil ?_
              clear k3 kcv
              refine growK_one 1 (by kernel_rfl) (fun K hK => ?_)
              simp only [stepOf, List.getElem?_toArray, List.getElem?_cons_succ, List.getElem?_cons_zero]
              go_simp
              go_at_call 15
              (with_reducible refine HCL.out.mono ?_)
              rintro e w9 ⟨rfl, X9, hid9, hx9, hf9⟩
              have HB9 := Lib.hid (KBL.out w9 hf9)
              have HI9 : Hid (∃ m, catI (L.drop (k + 1)) = some m ∧ ∃ X, Id B0 X w9 bi (some m)) := ⟨r, HCR.out, X9, hid9⟩
              refine hK.out _ _ (keep_class hf9) ?_
              clear hK K HCL hid9 hx9 hf9
              refine growK_last (by kernel_rfl) (by kernel_rfl) (fun K hK => ?_)
              simp only [stepOf, List.getElem?_toArray, List.getElem?_cons_succ, List.getElem?_cons_zero]
              go_simp
              refine hK.out _ _ ?_
              clear hK K
              go_wp2_with fail
              go_roundw
              case rel => exact ⟨k + 1, by omega, by go_num, HI9, HB9⟩
              case measure => simp [intOf]; omega
            · have d4 : ((kd : Int) == 3) = false := beq_eq_false_iff_ne.2 hk4
              have d5 : (kd == 3) = false := beq_eq_false_iff_ne.2 (by omega)
              have hput : some B = some xb := by
                have := HXB.out
                unfold putI at this
                rwa [if_neg (show ¬ kd < 3 by omega), if_neg (show ¬ kd = 3 by omega)] at this
              obtain rfl : B = xb := Option.some.inj hput
              have HCL := HJ.out.raw B0 X wd bi _ (B.length : Int) HIDd.out ⟨by omega, by omega⟩
              obtain ⟨r1, r2⟩ := back_r (b := B) (r := r)
              rw [r1, r2] at HCL
              have HCL := Lib.hid HCL
              clear hput r1 r2 k1 k2
              go_wp2_with fail
              refine growK_begin 10 (fun w' => ∃ u : KeepW wd X, w' = u.v) (by kernel_rfl) ?_
              rw [← hwd]
              clear hwd
              refine growK_take (by kernel_rfl) [0, 1, 2, 3, 6, 7, 8] 4 _ _ (by kernel_rfl) _ (keep_class (Fr.refl _ _)) ?_
              simp only [opsAt, List.getElem?_toArray, List.getElem?_cons_succ, List.getElem?_cons_zero]
              repeat (first | go_big_quiet_step (fail) | quiet_step (fail))
              refine wpQuiet_nil ?_
              clear k3 kcv
              refine growK_one 4 (by kernel_rfl) (fun K hK => ?_)
              simp only [stepOf, List.getElem?_toArray, List.getElem?_cons_succ, List.getElem?_cons_zero]
              go_simp
              go_at_call 16
              (with_reducible refine HCL.out.mono ?_)
              rintro e w9 ⟨⟨a9, c9, rfl, hs9⟩, X9, hid9, hx9, hf9⟩
              have HB9 := Lib.hid (KBL.out w9 hf9)
              have HI9 : Hid (∃ m, catI (L.drop (k + 1)) = some m ∧ ∃ X, Id B0 X w9 bi (some m)) := ⟨r, HCR.out, X9, hid9⟩
              have cv9 := conv_sl w9 a9 c9 B hs9
              rw [← HSE.out] at cv9
              refine hK.out _ _ (keep_class hf9) ?_
              clear hK K HCL hid9 hx9 hs9
              refine growK_one 5 (by kernel_rfl) (fun K hK => ?_)
              simp only [stepOf, List.getElem?_toArray, List.getElem?_cons_succ, List.getElem?_cons_zero]
              go_simp
              refine hK.out _ _ (keep_class hf9) ?_
              clear hK K cv9
              refine growK_take (by kernel_rfl) [9] 1 _ _ (by kernel_rfl) _ (keep_class hf9) ?_
              simp only [opsAt, List.getElem?_toArray, List.getElem?_cons_succ, List.getElem?_cons_zero]
              repeat (first | go_big_quiet_step (fail) | quiet_step (fail))
              refine wpQuiet_nil ?_
              refine growK_last (by kernel_rfl) (by kernel_rfl) (fun K hK => ?_)
              simp only [stepOf, List.getElem?_toArray, List.getElem?_cons_succ, List.getElem?_cons_zero]
              go_simp
              refine hK.out _ _ ?_
              clear hK K hf9
              go_wp2_with fail
              go_roundw
              case rel => exact ⟨k + 1, by omega, by go_num, HI9, HB9⟩
              case measure => simp [intOf]; omega
        · obtain rfl : k = L.length := by omega
          rw [List.drop_length] at hm
          obtain rfl : m = [] := by
            have : some [] = some m := hm
            exact (Option.some.inj this).symm
          have HXL := Lib.hid (HJ.out.lt hid)
          have HDN : Hid (Calls Try.prog 17 #[.pointer (some ⟨bi, 0, none⟩)] wr fun e w' => e = .returned (.bool true) ∧ InPost Id B0 X wr bi (some []) w') := (HJ.out.done B0 X wr bi _ hid).mono fun e w' h => ⟨by rw [h.1]; simp, h.2⟩
          clear HI hid hm
          go_wp2_with fail
          (with_reducible refine HDN.out.mono ?_)
          rintro e w5 ⟨rfl, X5, hid5, hx5, hf5⟩
          have HB5 := Lib.hid (HB.out.trans (hf5.below HB.out.size fun j hj hX => by have := (HXL.out j hX).1; omega))
          have HXL5 := Lib.hid (HJ.out.lt hid5)
          have HBD := Lib.hid (HJ.out.bad B0 X5 w5 bi _ hid5)
          clear hid5 hx5 hf5 HDN HXL
          go_wp2_with fail
          refine HBD.out.mono ?_
          rintro e w6 ⟨rfl, X6, hid6, hx6, hf6⟩
          have HB6 := Lib.hid (HB5.out.trans (hf6.below HB5.out.size fun j hj hX => by have := (HXL5.out j hX).1; omega))
          clear hid6 hx6 hf6 HBD
          go_wp2_with fail
          go_ret
          exact ⟨rfl, HB6.out⟩
end Go.Proofs.Ytdfgdpgffblbpaa
