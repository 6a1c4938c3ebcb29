/-
  The laws of package dense: rows that come in; awake; DenseRanks, walked.
-/
import Derived.Test.YtiglmoggpjgmbaaReduceW
import Derived.Deep.Matrix
namespace Go.Proofs.Ytiglmoggpjgmbaa
open Go.ChangeShapes Go.WideShapes Go.ChangeAt Go.RowKit Go.Joins
set_option linter.unusedVariables false

/-- Rows that came in. -/
theorem rows_in {H : Type} {enc : TypeId × Value → H} {w : World} {base fuel : Nat} {held : Bool} {c : Value} {x : DataW H × List MemPlace}
    (h : DataW.trod enc Try.prog w base (fun _ => true) held fuel 22 [c] = some x) :
    ∃ (a : Option Addr) (cap : Nat) (ls : Rws), c = .slice a ls.length cap ∧ Rs w.heap.size w a cap ls := by
  rcases Go.Deep.open_int_rows Try.underlying22 Try.underlying32 Try.underlying5 (by kernel_rfl) (by kernel_rfl) h with ⟨hcs, _⟩ | ⟨a, len, cap, A, L, C, Z, hcs, _, hl, hm, _, hr⟩
  · simp only [List.cons.injEq, and_true] at hcs
    exact ⟨none, 0, [], hcs, nil_rs _ _⟩
  · simp only [List.cons.injEq, and_true] at hcs
    have hlen : ((List.range len).map fun r => ((Z r).take (L r)).map Int.toNat).length = len := by simp
    refine ⟨some a, cap, (List.range len).map fun r => ((Z r).take (L r)).map Int.toNat, by rw [hlen]; exact hcs, by rw [hlen]; exact hl, hm, fun e => (by cases e), ?_⟩
    by_cases h0 : len = 0
    · subst h0; exact .inl rfl
    · obtain ⟨b, off, spot⟩ := a
      have hc0 := (hr 0 (by omega)).1
      have hspot : spot = none := by simpa [Addr.add] using World.cell?_spot hc0
      subst hspot
      have hadd : ∀ r, (⟨b, off, none⟩ : Addr).add r = ⟨b, off + r, none⟩ := fun r => by
        by_cases r0 : r = 0
        · subst r0; simp [Addr.add]
        · simp [Addr.add, r0]
      refine .inr ⟨b, off, rfl, ?_, fun r hrl => ?_⟩
      · rw [hadd] at hc0; exact World.block_lt_of_cell? w _ hc0
      · rw [hlen] at hrl
        obtain ⟨h1, h2, h3, h4, h5, h6, h7⟩ := hr r (by omega)
        rw [hadd] at h1
        have hlr : (((List.range len).map fun r => ((Z r).take (L r)).map Int.toNat)[r]'(by rw [hlen]; exact hrl)) = ((Z r).take (L r)).map Int.toNat := by simp
        rw [hlr]
        have hll : (((Z r).take (L r)).map Int.toNat).length = L r := by simp; omega
        have hb255 : ∀ z ∈ Z r, 0 ≤ z ∧ z ≤ 255 := fun z hz => by
          have := h5 z hz
          simpa [Lit.wf, IntKind.min, IntKind.max, IntKind.signed, IntKind.bits] using this
        refine ⟨A r, C r, by rw [hll]; exact h1, Rw.of_sl ⟨fun n hn => ?_, by rw [hll]; exact h2, h3, fun e => ?_, ?_⟩⟩
        · obtain ⟨z, hz1, rfl⟩ := List.mem_map.1 hn
          have := hb255 z (List.mem_of_mem_take hz1)
          omega
        · have hC := h6 e
          exact ⟨List.length_eq_zero_iff.1 (by rw [hll]; omega), hC⟩
        · by_cases hL : L r = 0
          · exact .inl (List.length_eq_zero_iff.1 (by rw [hll]; exact hL))
          · cases hA : A r with
            | none => have := h6 hA; omega
            | some a' =>
              obtain ⟨b', off', spot'⟩ := a'
              have hcell := (h7 _ hA).2
              have hc0' := hcell 0 (by omega)
              have hspot' : spot' = none := by simpa [Addr.add] using World.cell?_spot hc0'
              subst hspot'
              refine .inr ⟨b', off', rfl, fun i hi => ?_⟩
              rw [hll] at hi
              have hci := hcell i (by omega)
              have e : (Z r).getD i 0 = (Z r)[i]'(by omega) := by simp [List.getD, show i < (Z r).length by omega]
              rw [e] at hci
              have hb := hb255 _ (List.getElem_mem (show i < (Z r).length by omega))
              have e2 : (((((Z r).take (L r)).map Int.toNat)[i]'(by rw [hll]; exact hi) : Nat) : Int) = (Z r)[i]'(by omega) := by simp; omega
              rw [e2, ← hci]
              by_cases hi0 : i = 0
              · subst hi0; simp [Addr.add]
              · simp [Addr.add, hi0]

set_option maxHeartbeats 1000000 in
theorem awake_any (w : World) : Calls Try.prog 6 #[] w fun e w' => e = .returned (.bool true) ∧ Below w.heap.size w w' := by
  have hb2 : Below w.heap.size w ((w.alloc (.cells #[.int .u8 1] 5)).alloc (.cells #[.slice (some ⟨w.heap.size, 0, none⟩) 1 1] 32)) := ((Below.refl _ _).alloc (Nat.le_refl _) _).alloc (by simp) _
  have hrs : Rs ((w.alloc (.cells #[.int .u8 1] 5)).alloc (.cells #[.slice (some ⟨w.heap.size, 0, none⟩) 1 1] 32)).heap.size ((w.alloc (.cells #[.int .u8 1] 5)).alloc (.cells #[.slice (some ⟨w.heap.size, 0, none⟩) 1 1] 32)) (some ⟨w.heap.size + 1, 0, none⟩) 1 [[1]] := by
    refine ⟨Nat.le_refl _, by unfold maxLen; decide, fun e => (by cases e), .inr ⟨_, 0, rfl, by simp, fun i hi => ?_⟩⟩
    obtain rfl : i = 0 := by simp at hi; omega
    refine ⟨some ⟨w.heap.size, 0, none⟩, 1, by simp, Rw.of_sl ⟨by simp [IsByte], by simp, by unfold maxLen; decide, fun e => (by cases e), .inr ⟨w.heap.size, 0, rfl, fun i hi => ?_⟩⟩⟩
    obtain rfl : i = 0 := by simp at hi; omega
    simp
  have hr := rank_any _ _ 1 [[1]] _ (Nat.le_refl _) hrs (by simp) (by simp)
  rw [show rankN [[1]] = 1 by decide +kernel, show ([[1]] : Rws).length = 1 from rfl] at hr
  have HB := Lib.hid hb2
  clear hrs hb2
  go_enter Try.func6, Try.ntmps6
  go_wp2_with fail
  (with_reducible refine hr.mono ?_)
  rintro e w1 ⟨rfl, b1⟩
  have HB1 := Lib.hid (HB.out.trans (b1.mono HB.out.size))
  clear b1 hr
  go_wp2_with fail
  go_ret
  exact ⟨rfl, HB1.out⟩

def TrueAnd (w : World) (e : Ending) (w' : World) : Prop := e = .returned (.bool true) ∧ Below w.heap.size w w'

theorem conv_class {w : World} {a : Option Addr} {n cap : Nat} {l : List Nat} (h : Sl w a cap l) (hn : l.length = n) : ∀ d os, (convert 32 9 (.slice a n cap)).run Try.prog (Sort.grow (redrawn w d) os) = .ok (.string (strOf l)) (Sort.grow (redrawn w d) os) := fun d os => by
  subst hn
  exact conv_sl _ a cap l (h.below (below_regrown w d os))

theorem red_at {ls : Rws} {i : Nat} (hi : i < rankN ls) : (redOf ls).getD i [] = (echTo (pads ls (longN ls)) (longN ls)).1.getD i [] := by
  rw [getR (by simp [redOf]; exact hi)]
  simp [redOf]

set_option maxRecDepth 100000 in
set_option maxHeartbeats 2000000 in
theorem denseRanks_walk (a : Option Addr) (cap : Nat) (ls : Rws) (w : World) (hs : Rs w.heap.size w a cap ls) :
    Calls Try.prog 3 #[.slice a ls.length cap] w (TrueAnd w) := by
  have hlm := hs.lt
  have HS : Hid (∀ w', Below w.heap.size w w' → Rs w.heap.size w' a cap ls) := fun w' hb => hs.keep (Nat.le_refl _) (Keep.of_below hb)
  have HBY := Lib.hid hs.byte
  have HAW := Lib.hid awake_any
  by_cases hf : fewB ls = false
  · have hfew : Hid (∀ w', Below w.heap.size w w' → Calls Try.prog 7 #[.slice a ls.length cap] w' fun e w'' => e = .returned (.bool false) ∧ w' = w'') := fun w' hb => by
      have := few_any w.heap.size a cap ls w' (HS.out w' hb)
      rwa [hf] at this
    clear hs hf
    go_enter Try.func3, Try.ntmps3
    go_wp2_with fail
    (with_reducible refine (HAW.out _).mono ?_)
    rintro e w1 ⟨rfl, b1⟩
    have HB1 := Lib.hid b1
    clear b1
    go_wp2_with fail
    (with_reducible refine (hfew.out _ HB1.out).mono ?_)
    rintro e w2 ⟨rfl, rfl⟩
    go_wp2_with fail
    (with_reducible refine (HAW.out _).mono ?_)
    rintro e w3 ⟨rfl, b3⟩
    have HB3 : Hid (Below w.heap.size w w3) := HB1.out.trans (b3.mono HB1.out.size)
    clear b3
    go_wp2_with fail
    go_ret
    exact ⟨rfl, HB3.out⟩
  · have hf2 : fewB ls = true := by simpa using hf
    obtain ⟨hl40, hm40⟩ := fewB_iff.1 hf2
    have hfew : Hid (∀ w', Below w.heap.size w w' → Calls Try.prog 7 #[.slice a ls.length cap] w' fun e w'' => e = .returned (.bool true) ∧ w' = w'') := fun w' hb => by
      have := few_any w.heap.size a cap ls w' (HS.out w' hb)
      rwa [hf2] at this
    have hm1 : ∀ x ∈ ls, x.length ≤ 1000 := fun x hx => Nat.le_trans (hm40 x hx) (by omega)
    have hl1 : ls.length ≤ 1000 := by omega
    have hNN := longN_le hm1
    have HROW : Hid (∀ w', Below w.heap.size w w' → Calls Try.prog 8 #[.slice a ls.length cap] w' (RowsPost ls w')) := fun w' hb => rows_any _ a cap ls w' hb.size (HS.out w' hb) hl1 hm1
    have HRED : Hid (∀ w', Below w.heap.size w w' → Calls Try.prog 10 #[.slice a ls.length cap] w' (RedPost ls w')) := fun w' hb => reduce_any _ a cap ls w' hb.size (HS.out w' hb) hl1 hm1
    have HRNK : Hid (∀ w', Below w.heap.size w w' → Calls Try.prog 11 #[.slice a ls.length cap] w' fun e w'' => e = .returned (.int .i64 ((rankN ls : Nat) : Int)) ∧ Below w'.heap.size w' w'') := fun w' hb => rank_any _ a cap ls w' hb.size (HS.out w' hb) hl1 hm1
    have hRR : rankN ls ≤ ls.length := by
      have := (red_to (pads_rect (N := longN ls) HBY.out) (longN ls)).few
      exact this
    have hplen : Hid ((echTo (pads ls (longN ls)) (longN ls)).2.length = rankN ls) := rfl
    have hrlen : Hid ((redOf ls).length = rankN ls) := by show _ = _; simp [redOf]
    clear hs hf hf2 hm40 hm1
    by_cases hne : ls = []
    · have H0 := Lib.hid hne
      have HN : Hid (longN ls = 0) := by show _ = _; rw [hne]; rfl
      have HR0 : Hid (rankN ls = 0) := by show _ = _; rw [hne]; rfl
      clear hne
      go_enter Try.func3, Try.ntmps3
      go_wp2_with fail
      (with_reducible refine (HAW.out _).mono ?_)
      rintro e w1 ⟨rfl, b1⟩
      have HB1 := Lib.hid b1
      clear b1
      go_wp2_with fail
      (with_reducible refine (hfew.out _ HB1.out).mono ?_)
      rintro e w1' ⟨rfl, rfl⟩
      go_wp2_with fail
      (with_reducible refine (HROW.out _ HB1.out).mono ?_)
      rintro e w2 ⟨v, rfl, ho, b2, hv⟩
      have HB2 : Hid (Below w.heap.size w w2) := HB1.out.trans (b2.mono HB1.out.size)
      have hv' := hv H0.out
      subst hv'
      rw [HN.out]
      clear ho b2 hv HROW hfew
      go_wp2_with fail
      (with_reducible refine (echelon_none _).mono ?_)
      rintro e w3 ⟨v3, rfl, b3⟩
      have HB3 : Hid (Below w.heap.size w w3) := HB2.out.trans (b3.mono HB2.out.size)
      clear b3
      go_wp2_with fail
      (with_reducible refine (HRED.out _ HB3.out).mono ?_)
      rintro e w5 ⟨a5, c5, v5, rfl, hrs5, hp5, b5⟩
      have HB5 : Hid (Below w.heap.size w w5) := HB3.out.trans (b5.mono HB3.out.size)
      obtain ⟨a6, c6, rfl, hc6, -⟩ := hp5.form
      have hc6' : c6 ≤ 9223372036854775807 := by unfold maxLen at hc6; omega
      have hc5 : c5 ≤ 9223372036854775807 := by have := hrs5.most; unfold maxLen at this; omega
      rw [hrlen.out, hplen.out, HR0.out]
      clear hrs5 hp5 b5 hc6 HRED
      go_wp2_with fail
      (with_reducible refine (HRNK.out _ HB5.out).mono ?_)
      rintro e w6 ⟨rfl, b6⟩
      have HB6 : Hid (Below w.heap.size w w6) := HB5.out.trans (b6.mono HB5.out.size)
      rw [HR0.out]
      clear b6 HRNK
      go_wp2_with fail
      go_loopw [55] (fun i wr => i = .int .i64 0 ∧ w6 = wr) (fun _ _ => 0)
      case atStart => exact ⟨rfl, rfl⟩
      case round =>
        obtain ⟨rfl, rfl⟩ := hrel
        go_wp2_with fail
        go_ret
        exact ⟨rfl, HB6.out⟩
    · have hpos : 0 < ls.length := List.length_pos_iff.2 hne
      have HECH : Hid (∀ (w' : World) (B : Nat) (a : Option Addr) (cap : Nat), B ≤ w'.heap.size → Rs B w' a cap (pads ls (longN ls)) → Calls Try.prog 9 #[.slice a (pads ls (longN ls)).length cap, .int .i64 ((longN ls : Nat) : Int)] w' (EchPost (pads ls (longN ls)) (longN ls) w')) := fun w' B a cap hB hs => echelon_some B a cap (pads ls (longN ls)) ls.length (longN ls) (longN ls) w' hB hs (pads_rect HBY.out) (Nat.le_refl _) hpos hl1 hNN
      have hpd : Hid ((pads ls (longN ls)).length = ls.length) := pads_len _ _
      clear hne
      go_enter Try.func3, Try.ntmps3
      go_wp2_with fail
      (with_reducible refine (HAW.out _).mono ?_)
      rintro e w1 ⟨rfl, b1⟩
      have HB1 := Lib.hid b1
      clear b1
      go_wp2_with fail
      (with_reducible refine (hfew.out _ HB1.out).mono ?_)
      rintro e w1' ⟨rfl, rfl⟩
      go_wp2_with fail
      (with_reducible refine (HROW.out _ HB1.out).mono ?_)
      rintro e w2 ⟨v, rfl, ho, b2, -⟩
      have HB2 : Hid (Below w.heap.size w w2) := HB1.out.trans (b2.mono HB1.out.size)
      obtain ⟨a2, c2, rfl, hrs2⟩ := ho.rs
      have h2 := HECH.out w2 _ a2 c2 (Nat.le_refl _) hrs2
      have hc2 : c2 ≤ 9223372036854775807 := by have := hrs2.most; unfold maxLen at this; omega
      clear ho b2 hrs2 HROW HECH hfew
      rw [hpd.out] at h2 ⊢
      go_wp2_with fail
      (with_reducible refine h2.mono ?_)
      rintro e w3 ⟨g3, c3, vp, rfl, hrs3, hp3, b3⟩
      have HB3 : Hid (Below w.heap.size w w3) := HB2.out.trans (b3.mono HB2.out.size)
      have HR3 := Lib.hid hrs3
      obtain ⟨a4, c4, rfl, hc4, hp4⟩ := hp3.form
      have HP3 := Lib.hid hp4
      have hc4' : c4 ≤ 9223372036854775807 := by unfold maxLen at hc4; omega
      rw [hplen.out, hpd.out]
      clear h2 hrs3 hp3 b3 hc4 hp4
      go_wp2_with fail
      (with_reducible refine (HRED.out _ HB3.out).mono ?_)
      rintro e w5 ⟨a5, c5, v5, rfl, hrs5, hp5, b5⟩
      have HB5 : Hid (Below w.heap.size w w5) := HB3.out.trans (b5.mono HB3.out.size)
      have HR5 := Lib.hid hrs5
      have HB35 := Lib.hid b5
      obtain ⟨a6, c6, rfl, hc6, hp6⟩ := hp5.form
      have HP5 := Lib.hid hp6
      have hc6' : c6 ≤ 9223372036854775807 := by unfold maxLen at hc6; omega
      have hc5 : c5 ≤ 9223372036854775807 := by have := hrs5.most; unfold maxLen at this; omega
      rw [hrlen.out, hplen.out]
      clear hrs5 hp5 b5 hc6 hp6 HRED
      go_wp2_with fail
      (with_reducible refine (HRNK.out _ HB5.out).mono ?_)
      rintro e w6 ⟨rfl, b6⟩
      have HB6 : Hid (Below w.heap.size w w6) := HB5.out.trans (b6.mono HB5.out.size)
      have HB56 := Lib.hid b6
      have hel : Hid ((echTo (pads ls (longN ls)) (longN ls)).1.length = ls.length) := (red_to (pads_rect (N := longN ls) HBY.out) (longN ls)).rect.rows
      have hat : Hid (∀ k, k < rankN ls → (redOf ls).getD k [] = (echTo (pads ls (longN ls)) (longN ls)).1.getD k []) := fun k hk => red_at hk
      have HNE : Hid (pads ls (longN ls) = pads ls (longN ls)) := rfl
      clear b6 HRNK HNE
      generalize hE1 : (echTo (pads ls (longN ls)) (longN ls)).1 = L at *
      generalize hE2 : (echTo (pads ls (longN ls)) (longN ls)).2 = P at *
      generalize redOf ls = X at *
      clear hE1 hE2
      generalize rankN ls = R at *
      have hqq : ((R : Int) != (R : Int)) = false := by simp
      have hR9 : R ≤ 1000 := by omega
      go_wp2_with fail
      go_loopw [55] (fun i wr => ∃ k : Nat, k ≤ R ∧ i = .int .i64 k ∧ Hid (Below w6.heap.size w6 wr)) (fun i _ => R - (intOf i).toNat)
      case atStart => exact ⟨0, by omega, rfl, Below.refl _ _⟩
      case round =>
        obtain ⟨k, hk, rfl, HB⟩ := hrel
        have HB7 : Hid (Below w.heap.size w wr) := HB6.out.trans (HB.out.mono HB6.out.size)
        by_cases hlt : k < R
        · have hltz : (k : Int) < (R : Int) := by omega
          have HB37 : Hid (Below w3.heap.size w3 wr) := (HB35.out.trans (HB56.out.mono HB35.out.size)).trans (HB.out.mono (Nat.le_trans HB35.out.size HB56.out.size))
          have HB57 : Hid (Below w5.heap.size w5 wr) := HB56.out.trans (HB.out.mono HB56.out.size)
          have hkP : k < P.length := by rw [hplen.out]; exact hlt
          have hPne : ¬ P = [] := fun e => by rw [e] at hkP; simp at hkP
          obtain ⟨b4, rfl, _, hc4⟩ := HP3.out.resolve_left hPne
          obtain ⟨b6, rfl, _, hc6⟩ := HP5.out.resolve_left hPne
          have p3 := hc4 k hkP
          have p5 := hc6 k hkP
          have p3 := (HB37.out.cell (p := ⟨b4, k, none⟩) (World.block_lt_of_cell? _ _ p3)).trans p3
          have p5 := (HB57.out.cell (p := ⟨b6, k, none⟩) (World.block_lt_of_cell? _ _ p5)).trans p5
          have hkX : k < X.length := by rw [hrlen.out]; exact hlt
          have hkL : k < L.length := by rw [hel.out]; omega
          obtain ⟨bx, ox, rfl, hbx, hrx⟩ := HR5.out.some hkX
          obtain ⟨ax, cx, x5, rx⟩ := hrx k hkX
          obtain ⟨bl, ol, el, hbl, hrl⟩ := HR3.out.some hkL
          cases el
          obtain ⟨al, cl, x3, rl⟩ := hrl k hkL
          have hXL : X[k] = L[k] := by
            have := hat.out k hlt
            rwa [getR hkX, getR hkL] at this
          have x5 := (HB57.out.cell (p := ⟨bx, ox + k, none⟩) hbx).trans x5
          have x3 := (HB37.out.cell (p := ⟨g3, 0 + k, none⟩) hbl).trans x3
          rw [hXL] at x5 rx
          have sx := conv_class (rx.sl.below HB57.out) rfl
          have sl := conv_class (rl.sl.below HB37.out) rfl
          have hpp : (((P[k] : Nat) : Int) != ((P[k] : Nat) : Int)) = false := by simp
          have hlLk : L[k].length ≤ 9223372036854775807 := rl.sl.lt
          generalize P[k] = q at *
          generalize L[k] = m at *
          rw [Nat.zero_add] at x3
          have u3 := cell_up p3
          have u5 := cell_up p5
          have y3 := cell_up x3
          have y5 := cell_up x5
          have hk0 : (0 : Int) ≤ (k : Int) := by omega
          have hkl : (k : Int) < (ls.length : Int) := by omega
          clear hc4 hc6 hrx hrl rx rl hXL p3 p5 x3 x5
          go_wp2_with fail
          refine grow_begin (by kernel_rfl) ?_
          refine grow_take (by kernel_rfl) [0, 1, 2, 3, 4, 5, 6, 7, 8, 9, 10, 11, 12, 13, 14, 15, 16, 17, 18, 19, 20, 21] 0 _ _ (by kernel_rfl) ?_
          simp only [opsAt, List.getElem?_toArray, List.getElem?_cons_succ, List.getElem?_cons_zero]
          repeat (first | go_big_quiet_step (fail) | quiet_step (fail))
          refine wpQuiet_nil ?_
          intro w8 hw8
          have hb8 := below_of_up hw8
          refine grow_done (by kernel_rfl) ?_
          have HB8 : Hid (Below w6.heap.size w6 w8) := HB.out.trans (hb8.mono HB.out.size)
          clear u3 u5 y3 y5 sx sl hb8 hw8
          go_wp2_with fail
          go_roundw
          case rel => exact ⟨k + 1, by omega, by go_num, HB8⟩
          case measure => simp [intOf]; omega
        · obtain rfl : k = R := by omega
          have hltz : ¬ (k : Int) < (k : Int) := by omega
          go_wp2_with fail
          go_ret
          exact ⟨rfl, HB7.out⟩
end Go.Proofs.Ytiglmoggpjgmbaa
