/-
  DenseSolves, walked.
-/
import Derived.Test.YtiglmoggpjgmbaaSym0
import Derived.Test.YtiglmoggpjgmbaaSolMath
namespace Go.Proofs.Ytiglmoggpjgmbaa
open Go.ChangeShapes Go.WideShapes Go.ChangeAt Go.RowKit Go.Joins
set_option linter.unusedVariables false

/-- A slice of slices that is made, and one that another may be: pushed to, with where the new one lies. -/
theorem wpList_push_rows3 {ops : Array Oper} {rest : List Oper} {o : Oper} {a : Act} {Q : Exit → Act → World → Prop} (w : World) (hgd : o.guard = none) (s x : Operand)
    (ho : o.op = .call { callee := .builtin .append, args := #[s, x], argTypes := #[22, 22] })
    (B : Nat) (v : Value) (ls : Rws) (hs : a.eval s = v) (hown : Own B w v ls) (g : Nat) (hx : a.eval x = .slice (some ⟨g, 0, none⟩) 1 1)
    (aa : Option Addr) (c : Nat) (l : List Nat) (hcell : w.cell? ⟨g, 0, none⟩ = some (.slice aa l.length c)) (hrw : Rw B w aa c l) (hB : B ≤ w.heap.size) (hlen : ls.length ≤ 100000)
    (h : ∀ v' w', Hid (Own B w' v' (ls ++ [l])) → Hid (Keep B w w' ∧ w.grownBy w' v.ownBlock ∧ (v'.ownBlock = v.ownBlock ∨ v'.ownBlock = some w.heap.size)) → wpList Try.prog ops Q rest (a.put o.dst v') w') : wpList Try.prog ops Q (o :: rest) a w := by
  obtain ⟨i0, hi, hz0, hz1, hz2⟩ := info_parts infoR
  obtain ⟨xs, ho1, hxs⟩ := hown
  refine wpList_append_own_at w hgd s x 22 ho B 32 i0 (.slice none 0 0) 1 24 Try.underlying22 hi hz0 hz1 hz2 rfl (by decide) v ls.length xs hs ho1 ⟨g, 0, none⟩ 1 1 [.slice aa l.length c] hx rfl (one_cell hcell) (by simp [Value.oneCell']) (by unfold maxLen; omega) (by omega) hB ?_
  intro v' w' h1 h2 _ h5
  have hk : Keep B w w' := (Keep.refl B w).grown h2 (Other.of_own ho1 (by decide))
  refine h v' w' ⟨xs ++ [.slice aa l.length c], by simpa using h1, fun i hi' => ?_⟩ ⟨hk, h2, h5⟩
  have hxl : xs.length = ls.length := by simpa using ho1.1
  by_cases e : i < ls.length
  · obtain ⟨a', c', e1, e2⟩ := hxs i e
    refine ⟨a', c', ?_, ?_⟩
    · rw [List.getElem_append_left e, List.getElem?_append_left (by omega)]; exact e1
    · rw [List.getElem_append_left e]; exact e2.keep hk
  · have e2 : i = ls.length := by simp at hi'; omega
    subst e2
    refine ⟨aa, c, ?_, ?_⟩
    · rw [List.getElem_append_right (Nat.le_refl _), List.getElem?_append_right (by omega)]
      simp [hxl]
    · rw [List.getElem_append_right (Nat.le_refl _)]
      simpa using hrw.keep hk

/-- Two slices that are made side by side. -/
structure Two (B : Nat) (w : World) (v1 v2 : Value) (l1 l2 : Rws) : Prop where
  one : Own B w v1 l1
  two : Own B w v2 l2
  apart : ∀ g, v1.ownBlock = some g → v2.ownBlock ≠ some g
theorem own_lt {w : World} {B e s n g : Nat} {v : Value} {xs : List Value} (h : w.ownsRow B e s v n xs) (hg : v.ownBlock = some g) : g < w.heap.size := by
  rcases h.2 with ⟨rfl, _⟩ | ⟨g', cap, cur, rfl, _, hh, _⟩
  · simp [Value.ownBlock] at hg
  · have : g' = g := by simpa [Value.ownBlock] using hg
    subst this
    exact (Array.getElem?_eq_some_iff.1 hh).1
theorem Two.nil (B : Nat) (w : World) : Two B w (.slice none 0 0) (.slice none 0 0) [] [] := ⟨Own.nil _ _, Own.nil _ _, fun g h => by simp [Value.ownBlock] at h⟩
theorem Two.keep {B : Nat} {w w' : World} {v1 v2 : Value} {l1 l2 : Rws} (h : Two B w v1 v2 l1 l2) (k : Below w.heap.size w w') : Two B w' v1 v2 l1 l2 := ⟨h.one.keep k, h.two.keep k, h.apart⟩
theorem Own.other {B : Nat} {w w' : World} {v v2 : Value} {ls : Rws} (h : Own B w v ls) (hg : w.grownBy w' v2.ownBlock) (hk : Keep B w w') (hne : ∀ g, v.ownBlock = some g → v2.ownBlock ≠ some g) : Own B w' v ls := by
  obtain ⟨xs, ho, hx⟩ := h
  refine ⟨xs, World.ownsRow.kept ho hg ?_, fun i hi => ?_⟩
  · cases hv : v.ownBlock with
    | none => exact .inl rfl
    | some g => exact .inr fun e => hne g hv e.symm
  · obtain ⟨a, c, e1, e2⟩ := hx i hi
    exact ⟨a, c, e1, e2.keep hk⟩
theorem Two.push1 {B : Nat} {w w' : World} {v1 v1' v2 : Value} {l1 l2 : Rws} {l : List Nat} (h : Two B w v1 v2 l1 l2) (ho : Own B w' v1' (l1 ++ [l])) (hk : Keep B w w' ∧ w.grownBy w' v1.ownBlock ∧ (v1'.ownBlock = v1.ownBlock ∨ v1'.ownBlock = some w.heap.size)) : Two B w' v1' v2 (l1 ++ [l]) l2 := by
  refine ⟨ho, h.two.other hk.2.1 hk.1 fun g h2 h1 => h.apart g h1 h2, fun g h1 h2 => ?_⟩
  rcases hk.2.2 with e | e
  · exact h.apart g (by rw [← e]; exact h1) h2
  · obtain ⟨xs, hx⟩ := h.two.row
    have := own_lt hx h2
    rw [e] at h1
    have : w.heap.size = g := by simpa using h1
    omega
theorem Two.push2 {B : Nat} {w w' : World} {v1 v2 v2' : Value} {l1 l2 : Rws} {l : List Nat} (h : Two B w v1 v2 l1 l2) (ho : Own B w' v2' (l2 ++ [l])) (hk : Keep B w w' ∧ w.grownBy w' v2.ownBlock ∧ (v2'.ownBlock = v2.ownBlock ∨ v2'.ownBlock = some w.heap.size)) : Two B w' v1 v2' l1 (l2 ++ [l]) := by
  refine ⟨h.one.other hk.2.1 hk.1 h.apart, ho, fun g h1 h2 => ?_⟩
  rcases hk.2.2 with e | e
  · exact h.apart g h1 (by rw [← e]; exact h2)
  · obtain ⟨xs, hx⟩ := h.one.row
    have := own_lt hx h1
    rw [e] at h2
    have : w.heap.size = g := by simpa using h2
    omega

theorem Sl.take {w : World} {a : Option Addr} {cap : Nat} {l : List Nat} (h : Sl w a cap l) (q : Nat) : Sl w a cap (l.take q) := by
  have hle : (l.take q).length ≤ l.length := by rw [List.length_take]; omega
  refine ⟨fun n hn => h.byte n (List.mem_of_mem_take hn), Nat.le_trans hle h.len, h.most, fun e => ⟨by rw [(h.none e).1, List.take_nil], (h.none e).2⟩, ?_⟩
  rcases h.here with rfl | ⟨b, off, e, hb⟩
  · exact .inl List.take_nil
  · refine .inr ⟨b, off, e, fun i hi => ?_⟩
    rw [hb i (by omega), List.getElem_take]
theorem Rw.take {B : Nat} {w : World} {a : Option Addr} {cap : Nat} {l : List Nat} (h : Rw B w a cap l) (q : Nat) : Rw B w a cap (l.take q) :=
  ⟨h.sl.take q, fun hl p hp => h.tag (fun e => hl (by rw [e, List.take_nil])) p hp⟩
theorem Rw.mono {B B' : Nat} {w : World} {a : Option Addr} {cap : Nat} {l : List Nat} (h : Rw B w a cap l) (hB : B ≤ B') : Rw B' w a cap l :=
  ⟨h.sl, fun hl p hp => (h.tag hl p hp).imp (fun h => by omega) id⟩
theorem empty_sl (w : World) (b : Nat) : Sl w (some ⟨b, 0, none⟩) 0 [] := ⟨by simp [IsByte], by simp, by simp, fun e => (by cases e), .inl rfl⟩
theorem take_min (l : List Nat) (m : Nat) : l.take (min l.length m) = l.take m := by
  by_cases h : m ≤ l.length
  · rw [Nat.min_eq_right h]
  · rw [Nat.min_eq_left (by omega), List.take_length, List.take_of_length_le (by omega)]
theorem cutN_snoc {rows : Rws} {i k : Nat} (h : i < rows.length) : cutN (rows.take (i + 1)) k = cutN (rows.take i) k ++ [rows[i].take k] := by
  unfold cutN
  rw [List.take_succ_eq_append_getElem h, List.map_append]; rfl
theorem symsN_snoc (V : Rws) (m k : Nat) (L : Rws) (r : List Nat) : symsN V m k (L ++ [r]) = symsN V m k L ++ [symTo V m (fillN r k) V.length] := by simp [symsN]

set_option maxRecDepth 100000 in
set_option maxHeartbeats 4000000 in
theorem denseSolves_walk (a ga : Option Addr) (cap gc : Nat) (rows vectors : Rws) (cn cs : Nat) (hcn : cn < 256) (hcs : cs < 256) (w : World) (hs : Rs w.heap.size w a cap rows) (hg : Rs w.heap.size w ga gc vectors) :
    Calls Try.prog 4 #[.slice a rows.length cap, .slice ga vectors.length gc, .int .u8 (cn : Int), .int .u8 (cs : Int)] w (TrueAnd w) := by
  have hlm := hs.lt
  have hlm2 := hg.lt
  have HS : Hid (∀ w', Below w.heap.size w w' → Rs w.heap.size w' a cap rows) := fun w' hb => hs.keep (Nat.le_refl _) (Keep.of_below hb)
  have HG : Hid (∀ w', Below w.heap.size w w' → Rs w.heap.size w' ga gc vectors) := fun w' hb => hg.keep (Nat.le_refl _) (Keep.of_below hb)
  have HBY := Lib.hid hs.byte
  have HBG := Lib.hid hg.byte
  have HAW := Lib.hid awake_any
  have HF1 : Hid (∀ w', Below w.heap.size w w' → Calls Try.prog 7 #[.slice a rows.length cap] w' fun e w'' => e = .returned (.bool (fewB rows)) ∧ w' = w'') := fun w' hb => few_any w.heap.size a cap rows w' (HS.out w' hb)
  have HF2 : Hid (∀ w', Below w.heap.size w w' → Calls Try.prog 7 #[.slice ga vectors.length gc] w' fun e w'' => e = .returned (.bool (fewB vectors)) ∧ w' = w'') := fun w' hb => few_any w.heap.size ga gc vectors w' (HG.out w' hb)
  clear hs hg
  obtain ⟨k, hk⟩ : ∃ k, k = cn % 12 := ⟨_, rfl⟩
  obtain ⟨m, hm⟩ : ∃ m, m = cs % 10 := ⟨_, rfl⟩
  have hk12 : k < 12 := by omega
  have hm10 : m < 10 := by omega
  have zk : (cn : Int) % 12 = (k : Int) := by omega
  have zm : (cs : Int) % 10 = (m : Int) := by omega
  clear hk hm
  cases hf1 : fewB rows with
  | false =>
    rw [hf1] at HF1
    go_enter Try.func4, Try.ntmps4
    go_wp2_with fail
    (with_reducible refine (HAW.out _).mono ?_)
    rintro e w1 ⟨rfl, b1⟩
    have HB1 := Lib.hid b1
    clear b1
    go_wp2_with fail
    (with_reducible refine (HF1.out _ HB1.out).mono ?_)
    rintro e w2 ⟨rfl, rfl⟩
    go_wp2_with fail
    (with_reducible refine (HAW.out _).mono ?_)
    rintro e w3 ⟨rfl, b3⟩
    have HB3 : Hid (Below w.heap.size w w3) := HB1.out.trans (b3.mono HB1.out.size)
    clear b3
    go_wp2_with fail
    go_ret
    exact ⟨rfl, HB3.out⟩
  | true =>
    rw [hf1] at HF1
    obtain ⟨hl40, hm40⟩ := fewB_iff.1 hf1
    cases hf2 : fewB vectors with
    | false =>
      rw [hf2] at HF2
      go_enter Try.func4, Try.ntmps4
      go_wp2_with fail
      (with_reducible refine (HAW.out _).mono ?_)
      rintro e w1 ⟨rfl, b1⟩
      have HB1 := Lib.hid b1
      clear b1
      go_wp2_with fail
      (with_reducible refine (HF1.out _ HB1.out).mono ?_)
      rintro e w2 ⟨rfl, rfl⟩
      go_wp2_with fail
      (with_reducible refine (HF2.out _ HB1.out).mono ?_)
      rintro e w2 ⟨rfl, rfl⟩
      go_wp2_with fail
      (with_reducible refine (HAW.out _).mono ?_)
      rintro e w3 ⟨rfl, b3⟩
      have HB3 : Hid (Below w.heap.size w w3) := HB1.out.trans (b3.mono HB1.out.size)
      clear b3
      go_wp2_with fail
      go_ret
      exact ⟨rfl, HB3.out⟩
    | true =>
      rw [hf2] at HF2
      obtain ⟨hv40, hvm40⟩ := fewB_iff.1 hf2
      have HM1 := Lib.hid hm40
      have HM2 := Lib.hid hvm40
      clear hm40 hvm40 hf1 hf2
      go_enter Try.func4, Try.ntmps4
      go_wp2_with fail
      (with_reducible refine (HAW.out _).mono ?_)
      rintro e w1 ⟨rfl, b1⟩
      have HB1 := Lib.hid b1
      clear b1
      go_wp2_with fail
      (with_reducible refine (HF1.out _ HB1.out).mono ?_)
      rintro e w2 ⟨rfl, rfl⟩
      go_wp2_with fail
      (with_reducible refine (HF2.out _ HB1.out).mono ?_)
      rintro e w2 ⟨rfl, rfl⟩
      go_wp2_with fail
      clear zk zm
      go_loopg [13, 41] k (fun gg v13 i wr => ∃ (j : Nat) (vv : Value), j ≤ k ∧ k - j ≤ gg ∧ i = .int .i64 j ∧ v13 = vv ∧ Hid (Own w.heap.size wr vv (vecsN vectors m j)) ∧ Hid (Below w.heap.size w wr))
      case atStart => exact ⟨0, _, by omega, by omega, rfl, rfl, Own.nil _ _, HB1.out⟩
      case round =>
        obtain ⟨j, vv, hj, hgg, rfl, rfl, HO, HB⟩ := hrel
        by_cases hlt : j < k
        · have hltz : (j : Int) < (k : Int) := by omega
          have HSN := Lib.hid (vecsN_snoc vectors m j)
          have hlv : (vecsN vectors m j).length ≤ 100000 := by rw [vecsN_len]; omega
          go_upto_if 48 with fail
          go_cut [15] (fun s15 wx => ∃ aa cc y, s15 = .slice aa y.length cc ∧ Hid (Sl wx aa cc y) ∧ Hid (fillN y m = fillN ((vectors.getD j []).take m) m) ∧ Hid (Below wr.heap.size wr wx))
          case first =>
            by_cases hjv : j < vectors.length
            · have hjvz : (j : Int) < (vectors.length : Int) := by omega
              have HBX := Lib.hid ((Below.refl wr.heap.size wr).alloc (Nat.le_refl _) (.cells #[] 5))
              have HBW : Hid (Below w.heap.size w (wr.alloc (.cells #[] 5))) := HB.out.trans (HBX.out.mono HB.out.size)
              obtain ⟨b, off, rfl, hbB, hrr⟩ := (HG.out _ HBW.out).some hjv
              obtain ⟨ai, ci, hck, hrw⟩ := hrr j hjv
              have HSL := Lib.hid hrw.sl
              have HX : Hid ((vectors.getD j []) = vectors[j]) := getR hjv
              have hx40 : vectors[j].length ≤ 40 := HM2.out _ (List.getElem_mem hjv)
              have hci := hrw.sl.most
              have hcl := hrw.sl.len
              have hci' : ci ≤ 9223372036854775807 := by unfold maxLen at hci; omega
              generalize vectors[j] = x at *
              generalize wr.alloc (.cells #[] 5) = wa at *
              have cc := cell_up hck
              obtain ⟨q, hq⟩ : ∃ q, q = min x.length m := ⟨_, rfl⟩
              have zq : min (x.length : Int) (m : Int) = (q : Int) := by omega
              have hqx : q ≤ x.length := by omega
              have hqc : (q : Int) ≤ (ci : Int) := by omega
              have hq0 : (0 : Int) ≤ (q : Int) := by omega
              have HQ : Hid ((x.take q).length = q) := by show _ = _; rw [List.length_take]; omega
              have HQ2 : Hid (fillN (x.take q) m = fillN ((vectors.getD j []).take m) m) := by
                show _ = _
                rw [HX.out, hq, take_min]
              clear hrr hrw hck hq
              cases ai with
              | none =>
                obtain ⟨hx0, hc0⟩ := HSL.out.none rfl
                subst hx0 hc0
                have hq00 : q = 0 := by simp at hqx; omega
                subst hq00
                have z0 : min (0 : Int) (m : Int) = 0 := by omega
                go_wp2_with fail
                refine grow_begin (by kernel_rfl) ?_
                refine grow_take (by kernel_rfl) [0, 1, 2, 3, 4, 5, 6, 7, 8, 9, 10, 11, 12] 0 _ _ (by kernel_rfl) ?_
                simp only [opsAt, List.getElem?_toArray, List.getElem?_cons_succ, List.getElem?_cons_zero]
                repeat (first | go_big_quiet_step (fail) | quiet_step (fail))
                refine wpQuiet_nil ?_
                intro w8 hw8
                have hb8 := below_of_up hw8
                refine grow_done (by kernel_rfl) ?_
                go_wp2_with fail
                go_meet
                exact ⟨none, 0, [], rfl, nil_sl _, HQ2.out, HBX.out.trans (hb8.mono HBX.out.size)⟩
              | some ai =>
                go_wp2_with fail
                refine grow_begin (by kernel_rfl) ?_
                refine grow_take (by kernel_rfl) [0, 1, 2, 3, 4, 5, 6, 7, 8, 9, 10, 11, 12] 0 _ _ (by kernel_rfl) ?_
                simp only [opsAt, List.getElem?_toArray, List.getElem?_cons_succ, List.getElem?_cons_zero]
                repeat (first | go_big_quiet_step (fail) | quiet_step (fail))
                refine wpQuiet_nil ?_
                intro w8 hw8
                have hb8 := below_of_up hw8
                refine grow_done (by kernel_rfl) ?_
                go_wp2_with fail
                go_meet
                exact ⟨some ai, ci, x.take q, by rw [HQ.out], (HSL.out.take q).below hb8, HQ2.out, HBX.out.trans (hb8.mono HBX.out.size)⟩
            · have hjvz : ¬ (j : Int) < (vectors.length : Int) := by omega
              have HX : Hid (vectors.getD j [] = []) := by show _ = _; simp [List.getD, List.getElem?_eq_none (show vectors.length ≤ j by omega)]
              go_wp2_with fail
              go_meet
              exact ⟨some ⟨wr.heap.size, 0, none⟩, 0, [], rfl, empty_sl _ _, by show _ = _; rw [HX.out, List.take_nil], (Below.refl _ _).alloc (Nat.le_refl _) _⟩
          case rest =>
            obtain ⟨aa, cc, y, rfl, HSL, HFL, HBX⟩ := hcut
            have HBC : Hid (Below w.heap.size w wc) := HB.out.trans (HBX.out.mono HB.out.size)
            have HOC := Lib.hid (HO.out.keep HBX.out)
            have hfl := fill_at 0 aa cc y m wc (by omega) HSL.out (Below.refl _ _)
            have hyl := HSL.out.lt
            clear HO HBX
            go_wp2_with fail
            (with_reducible refine hfl.mono ?_)
            rintro e w3 ⟨rfl, HN3, hb3, -⟩
            have HO3 := Lib.hid (HOC.out.keep hb3)
            have HB3 : Hid (Below w.heap.size w w3) := HBC.out.trans (hb3.mono HBC.out.size)
            have hfm : (fillN y m).length = m := fillN_len _ _
            generalize wc.heap.size = g3 at *
            rw [HFL.out] at HN3 hfm
            generalize fillN ((vectors.getD j []).take m) m = z at *
            have HFM := Lib.hid hfm
            clear hfl hb3 HOC HFL HSL hfm
            go_wp2_with (at_builtin; refine wpList_push_rows3 _ rfl _ _ rfl w.heap.size _ _ rfl (HO3.out.keep ((Below.refl _ _).alloc (Nat.le_refl _) _)) w3.heap.size rfl (some ⟨g3, 0, none⟩) m z (by rw [HFM.out]; simp) ((HN3.out.any w.heap.size).below ((Below.refl _ _).alloc (Nat.le_refl _) _)) (by have := HB3.out.size; simp; omega) hlv ?_; intro v5 w5 HO5 HK5)
            have HO6 : Hid (Own w.heap.size w5 v5 (vecsN vectors m (j + 1))) := by rw [HSN.out]; exact HO5.out
            have HB6 : Hid (Below w.heap.size w w5) := (HB3.out.alloc HB3.out.size _).trans (HK5.out.1.below (by have := HB3.out.size; simp; omega))
            clear HO5 HK5 HO3 HN3
            go_roundg (k - (j + 1))
            case measure => omega
            case rel => exact ⟨j + 1, v5, by omega, Nat.le_refl _, by first | rfl | go_num | (congr 1; omega), rfl, HO6, HB6⟩
        · obtain rfl : j = k := by omega
          have hltz : ¬ (j : Int) < (j : Int) := by omega
          obtain ⟨av, cv, ev, hrv⟩ := HO.out.rs
          rw [vecsN_len] at ev
          subst ev
          have HV := Lib.hid hrv
          have hcv : cv ≤ 9223372036854775807 := by have := hrv.most; unfold maxLen at this; omega
          have HVL := Lib.hid (vecsN_len vectors m j)
          have HKN := Lib.hid (vecsN_ok HBG.out m j)
          have hwz : w.heap.size ≤ wr.heap.size := HB.out.size
          obtain ⟨wo, hwo⟩ : ∃ wo, wo = wr := ⟨_, rfl⟩
          rw [← hwo] at HB HV hwz ⊢
          have HT0 := Lib.hid (Two.nil wo.heap.size wo)
          clear hrv HO hwo
          go_wp2_with fail
          generalize vecsN vectors m j = V at *
          go_loopg [11, 12, 70] (rows.length) (fun gg v11 v12 i wr => ∃ (t : Nat) (x1 x2 : Value), t ≤ rows.length ∧ rows.length - t ≤ gg ∧ i = .int .i64 t ∧ v11 = x1 ∧ v12 = x2 ∧ Hid (Two wo.heap.size wr x1 x2 (cutN (rows.take t) j) (symsN V m j (cutN (rows.take t) j))) ∧ Hid (Keep wo.heap.size wo wr))
          case atStart => exact ⟨0, _, _, by omega, by omega, rfl, rfl, rfl, HT0, Keep.refl _ _⟩
          case round =>
            clear HT0
            obtain ⟨t, x1, x2, ht, hgg2, rfl, rfl, rfl, HT, HK⟩ := hrel
            by_cases hltr : t < rows.length
            · have hltrz : (t : Int) < (rows.length : Int) := by omega
              have HBW : Hid (Below w.heap.size w wr) := HB.out.trans ((HK.out.below (Nat.le_refl _)).mono hwz)
              obtain ⟨b, off, rfl, hbB, hrr⟩ := (HS.out _ HBW.out).some hltr
              obtain ⟨ai, ci, hck, hrw⟩ := hrr t hltr
              have HRW := Lib.hid (hrw.mono hwz)
              have HC1 := Lib.hid (cutN_snoc (k := j) hltr)
              have hx40 : rows[t].length ≤ 40 := HM1.out _ (List.getElem_mem hltr)
              have hci := hrw.sl.most
              have hcl := hrw.sl.len
              have hci' : ci ≤ 9223372036854775807 := by unfold maxLen at hci; omega
              have hl1 : (cutN (rows.take t) j).length ≤ 100000 := by simp [cutN]; omega
              have hl2 : (symsN V m j (cutN (rows.take t) j)).length ≤ 100000 := by simp [symsN, cutN]; omega
              generalize rows[t] = x at *
              have cc := cell_up hck
              obtain ⟨q, hq⟩ : ∃ q, q = min x.length j := ⟨_, rfl⟩
              have zq : min (x.length : Int) (j : Int) = (q : Int) := by omega
              have hqx : q ≤ x.length := by omega
              have hqc : (q : Int) ≤ (ci : Int) := by omega
              have hq0 : (0 : Int) ≤ (q : Int) := by omega
              have HQ : Hid ((x.take q).length = q) := by show _ = _; rw [List.length_take]; omega
              have HQ2 : Hid (x.take q = x.take j) := by show _ = _; rw [hq, take_min]
              clear hrr hrw hck hq
              go_upto_region 17 with fail
              go_cut [17] (fun s17 wx => ∃ aa cc, s17 = .slice aa q cc ∧ Hid (Rw wo.heap.size wx aa cc (x.take q)) ∧ Hid (Below wr.heap.size wr wx))
              case first =>
                cases ai with
                | none =>
                  obtain ⟨hx0, hc0⟩ := HRW.out.sl.none rfl
                  subst hx0 hc0
                  have hq00 : q = 0 := by simp at hqx; omega
                  subst hq00
                  have z0 : min (0 : Int) (j : Int) = 0 := by omega
                  refine grow_begin (by kernel_rfl) ?_
                  refine grow_take (by kernel_rfl) [0, 1, 2, 3, 4, 5, 6, 7, 8, 9, 10, 11, 12] 0 _ _ (by kernel_rfl) ?_
                  simp only [opsAt, List.getElem?_toArray, List.getElem?_cons_succ, List.getElem?_cons_zero]
                  repeat (first | go_big_quiet_step (fail) | quiet_step (fail))
                  refine wpQuiet_nil ?_
                  intro w8 hw8
                  have hb8 := below_of_up hw8
                  refine grow_done (by kernel_rfl) ?_
                  go_wp2_with fail
                  go_meet
                  exact ⟨none, 0, rfl, (HRW.out.take 0).below hb8, hb8⟩
                | some ai =>
                  refine grow_begin (by kernel_rfl) ?_
                  refine grow_take (by kernel_rfl) [0, 1, 2, 3, 4, 5, 6, 7, 8, 9, 10, 11, 12] 0 _ _ (by kernel_rfl) ?_
                  simp only [opsAt, List.getElem?_toArray, List.getElem?_cons_succ, List.getElem?_cons_zero]
                  repeat (first | go_big_quiet_step (fail) | quiet_step (fail))
                  refine wpQuiet_nil ?_
                  intro w8 hw8
                  have hb8 := below_of_up hw8
                  refine grow_done (by kernel_rfl) ?_
                  go_wp2_with fail
                  go_meet
                  exact ⟨some ai, ci, rfl, (HRW.out.take q).below hb8, hb8⟩
              case rest =>
                obtain ⟨aa, cc', rfl, HRC, HBC⟩ := hcut
                clear cc
                have HT3 := Lib.hid (HT.out.keep HBC.out)
                have HK3 : Hid (Keep wo.heap.size wo wc) := HK.out.trans (Keep.of_below HBC.out)
                have hwoz : wo.heap.size ≤ wc.heap.size := HK3.out.size
                generalize x.take q = y at *
                clear HT HBC HK HRW
                go_upto_region 19 with (at_builtin; refine wpList_push_rows3 _ rfl _ _ rfl wo.heap.size _ _ rfl (HT3.out.keep ((Below.refl _ _).alloc (Nat.le_refl _) _)).one wc.heap.size rfl aa cc' y (by rw [HQ.out]; simp) (HRC.out.below ((Below.refl _ _).alloc (Nat.le_refl _) _)) (by simp; omega) hl1 ?_; intro v5 w5 HO5 HK5)
                have HT5 : Hid (Two wo.heap.size w5 v5 u12 (cutN (rows.take (t + 1)) j) (symsN V m j (cutN (rows.take t) j))) := by
                  rw [HC1.out, ← HQ2.out]
                  exact (HT3.out.keep ((Below.refl _ _).alloc (Nat.le_refl _) _)).push1 HO5.out HK5.out
                have HKX : Hid (Keep wo.heap.size wc w5) := (Keep.of_below ((Below.refl _ _).alloc (Nat.le_refl _) _)).trans HK5.out.1
                have HRX := Lib.hid (HRC.out.keep HKX.out)
                have HK6 : Hid (Keep wo.heap.size wo w5) := HK3.out.trans HKX.out
                have hw5z : wo.heap.size ≤ w5.heap.size := HK6.out.size
                have hfl := fill_at wo.heap.size aa cc' y j w5 (by omega) HRX.out.sl (Below.refl _ _)
                rw [HQ.out] at hfl
                clear HO5 HK5 HT3 HKX HK3
                go_wp2_with fail
                (with_reducible refine hfl.mono ?_)
                rintro e w6 ⟨rfl, HN6, hb6, -⟩
                have HT6 := Lib.hid (HT5.out.keep hb6)
                have HK7 : Hid (Keep wo.heap.size wo w6) := HK6.out.trans (Keep.of_below hb6)
                have hw6z : wo.heap.size ≤ w6.heap.size := HK7.out.size
                have hfl2 : (fillN y j).length = j := fillN_len _ _
                have hsy := symbol0_any wo.heap.size av cv V m (some ⟨w5.heap.size, 0, none⟩) j (fillN y j) w6 hw6z (HV.out.keep (Nat.le_refl _) HK7.out) (by rw [hfl2, HVL.out]; exact Nat.le_refl _) HN6.out.sl (by omega)
                rw [hfl2, HVL.out] at hsy
                generalize w5.heap.size = g5 at *
                clear hfl hb6 HT5 HK6 HRX HRC HN6
                go_wp2_with fail
                (with_reducible refine hsy.mono ?_)
                rintro e w7 ⟨g7, rfl, HN7, hb7⟩
                have HT7 := Lib.hid (HT6.out.keep hb7)
                have HK8 : Hid (Keep wo.heap.size wo w7) := HK7.out.trans (Keep.of_below hb7)
                have hw7z : wo.heap.size ≤ w7.heap.size := HK8.out.size
                have HR7 := Lib.hid (HN7.any wo.heap.size)
                have HSL : Hid ((symTo V m (fillN y j) V.length).length = m) := (symTo_ok (fun x hx => (HKN.out x hx).2) V.length (Nat.le_refl _)).1
                have HSS := Lib.hid (symsN_snoc V m j (cutN (rows.take t) j) y)
                clear hsy hfl2 hb7 HT6 HK7 HN7
                generalize symTo V m (fillN y j) V.length = z at *
                go_wp2_with (at_builtin; refine wpList_push_rows3 _ rfl _ _ rfl wo.heap.size _ _ rfl (HT7.out.keep ((Below.refl _ _).alloc (Nat.le_refl _) _)).two w7.heap.size rfl (some ⟨g7, 0, none⟩) m z (by rw [HSL.out]; simp) (HR7.out.below ((Below.refl _ _).alloc (Nat.le_refl _) _)) (by simp; omega) hl2 ?_; intro v8 w8 HO8 HK9)
                have HT9 : Hid (Two wo.heap.size w8 v5 v8 (cutN (rows.take (t + 1)) j) (symsN V m j (cutN (rows.take (t + 1)) j))) := by
                  have h := (HT7.out.keep ((Below.refl _ _).alloc (Nat.le_refl _) _)).push2 HO8.out HK9.out
                  rw [← HSS.out] at h
                  rw [HC1.out, ← HQ2.out] at h ⊢
                  exact h
                have HK10 : Hid (Keep wo.heap.size wo w8) := (HK8.out.trans (Keep.of_below ((Below.refl _ _).alloc (Nat.le_refl _) _))).trans HK9.out.1
                clear HT7 HO8 HK9 HK8 HR7
                go_roundg (rows.length - (t + 1))
                case measure => omega
                case rel => exact ⟨t + 1, v5, v8, by omega, Nat.le_refl _, by first | rfl | go_num | (congr 1; omega), rfl, rfl, HT9, HK10⟩
            · obtain rfl : t = rows.length := by omega
              have hltrz : ¬ (rows.length : Int) < (rows.length : Int) := by omega
              rw [List.take_length] at HT
              have HB7 : Hid (Below w.heap.size w wr) := HB.out.trans ((HK.out.below (Nat.le_refl _)).mono hwz)
              have hwrz : wo.heap.size ≤ wr.heap.size := HK.out.size
              have hLl : (cutN rows j).length = rows.length := by simp [cutN]
              have hRl : (symsN V m j (cutN rows j)).length = rows.length := by simp [symsN, cutN]
              have hLb : ∀ x ∈ cutN rows j, x.length ≤ j ∧ IsByte x := fun x hx => by
                obtain ⟨r, hr, rfl⟩ := List.mem_map.1 hx
                exact ⟨by rw [List.length_take]; omega, fun n hn => HBY.out r hr n (List.mem_of_mem_take hn)⟩
              have KN : Known V m j (cutN rows j) := ⟨HVL.out, HKN.out, hLb⟩
              have hRm : ∀ x ∈ symsN V m j (cutN rows j), x.length = m := fun x hx => by
                obtain ⟨r, hr, rfl⟩ := List.mem_map.1 hx
                exact (symTo_ok (fun x hx => (HKN.out x hx).2) V.length (Nat.le_refl _)).1
              have hrml : rightLen (symsN V m j (cutN rows j)) ≤ m ∧ ∀ x ∈ symsN V m j (cutN rows j), x.length = rightLen (symsN V m j (cutN rows j)) := by
                unfold rightLen
                by_cases h0 : 0 < (symsN V m j (cutN rows j)).length
                · have e := getR h0
                  have := hRm _ (List.getElem_mem h0)
                  rw [e, this]
                  exact ⟨Nat.le_refl _, hRm⟩
                · have h9 : symsN V m j (cutN rows j) = [] := List.eq_nil_of_length_eq_zero (by omega)
                  rw [h9]
                  simp
              have hfo : formedB (cutN rows j) (symsN V m j (cutN rows j)) (j : Int) = true := by
                rw [formedB_iff]
                have := longN_le (ls := cutN rows j) (m := j) (fun x hx => (hLb x hx).1)
                exact ⟨by omega, by omega, by rw [hLl, hRl], hrml.2⟩
              obtain ⟨al, cl, el, hrsl⟩ := HT.out.one.rs
              obtain ⟨ar, cr, er, hrsr⟩ := HT.out.two.rs
              rw [hLl] at el
              rw [hRl] at er
              subst el er
              have hsol := solve_any wr.heap.size al ar cl cr (cutN rows j) (symsN V m j (cutN rows j)) j wr (Nat.le_refl _) hrsl hrsr (by omega) (by omega) (by omega) hfo
              rw [hLl, hRl] at hsol
              have HRK : Hid (∀ w', Below wr.heap.size wr w' → Calls Try.prog 15 #[.slice al rows.length cl] w' fun e w'' => e = .returned (.int .i64 ((rankN (cutN rows j) : Nat) : Int)) ∧ Below w'.heap.size w' w'') := fun w' hb => by
                have := refRank_any wr.heap.size al cl (cutN rows j) w' hb.size (hrsl.keep (Nat.le_refl _) (Keep.of_below hb)) (by omega) (fun x hx => by have := (hLb x hx).1; omega)
                rwa [hLl] at this
              have HKW := Lib.hid KN
              have HLB := Lib.hid hLb
              have HRL2 := Lib.hid (hRl.trans hLl.symm)
              clear hLl hRl hLb KN hRm hrml hfo hrsl hrsr HT
              go_wp2_with fail
              (with_reducible refine hsol.mono ?_)
              rintro e w8 ⟨D, st, zs, hp, hi, hsay, hb8⟩
              have HB8 : Hid (Below w.heap.size w w8) := HB7.out.trans (hb8.mono HB7.out.size)
              have HB78 := Lib.hid hb8
              have HI := Lib.hid (And.intro hp hi)
              have HRN : Hid (rankN (cutN rows j) = st.length) := rank_of hp (zip_same hp HRL2.out) hi fun x hx => (HLB.out x hx).2
              have hrk := HRK.out w8 hb8
              rw [HRN.out] at hrk
              have hfew : st.length ≤ j := hi.few
              clear hsol hb8 hp hi HRK
              cases hsay with
              | rank h =>
                have hz : (st.length : Int) < (j : Int) := by omega
                go_wp2_with fail
                (with_reducible refine hrk.mono ?_)
                rintro e w9 ⟨rfl, b9⟩
                have HB9 : Hid (Below w.heap.size w w9) := HB8.out.trans (b9.mono HB8.out.size)
                clear hrk b9
                go_wp2_with fail
                go_ret
                exact ⟨rfl, HB9.out⟩
              | sum h hz =>
                have := HKW.out.sound HI.out.1 HI.out.2
                unfold allZ at hz
                rw [this] at hz
                cases hz
              | ok h hz ax cx hrx =>
                have hst : st.length = j := by omega
                have hz2 : ¬ (j : Int) < (j : Int) := by omega
                have HRX := Lib.hid hrx
                have hcx : cx ≤ 9223372036854775807 := by have := hrx.most; unfold maxLen at this; omega
                have HTD : Hid (∀ i, i < j → (solRows j st j).getD i [] = V.getD i []) := fun i hij => by
                  rw [getR (by simp [solRows]; exact hij)]
                  have := HKW.out.told HI.out.1 HI.out.2 h hij
                  rw [← this]
                  simp [solRows]
                have HSL : Hid ((solRows j st j).length = j) := by show _ = _; simp [solRows]
                rw [hst] at HRX hrk ⊢
                clear h hz hrx hst
                go_wp2_with fail
                (with_reducible refine hrk.mono ?_)
                rintro e w9 ⟨rfl, b9⟩
                have HB89 := Lib.hid b9
                have HB9 : Hid (Below w.heap.size w w9) := HB8.out.trans (b9.mono HB8.out.size)
                clear hrk b9
                have HVK : Hid (Below wo.heap.size wo w9) := ((HK.out.below (Nat.le_refl _)).trans (HB78.out.mono hwrz)).trans (HB89.out.mono (Nat.le_trans hwrz HB78.out.size))
                generalize solRows j st j = X at *
                go_wp2_with fail
                go_loopg [127] j (fun gg i wr => ∃ t : Nat, t ≤ j ∧ j - t ≤ gg ∧ i = .int .i64 t ∧ Hid (Below w9.heap.size w9 wr))
                case atStart => exact ⟨0, by omega, by omega, rfl, Below.refl _ _⟩
                case round =>
                  obtain ⟨t, ht, hgt, rfl, HBT⟩ := hrel
                  have HBN : Hid (Below w.heap.size w wr) := HB9.out.trans (HBT.out.mono HB9.out.size)
                  by_cases hlt3 : t < j
                  · have hltz3 : (t : Int) < (j : Int) := by omega
                    have HB8T : Hid (Below w8.heap.size w8 wr) := HB89.out.trans (HBT.out.mono HB89.out.size)
                    have HBVT : Hid (Below wo.heap.size wo wr) := HVK.out.trans (HBT.out.mono HVK.out.size)
                    have hkX : t < X.length := by rw [HSL.out]; exact hlt3
                    have hkV : t < V.length := by rw [HVL.out]; exact hlt3
                    obtain ⟨bx, ox, rfl, hbx, hrx⟩ := HRX.out.some hkX
                    obtain ⟨a5, c5, x5, rx⟩ := hrx t hkX
                    obtain ⟨bv, ov, rfl, hbv, hrv⟩ := HV.out.some hkV
                    obtain ⟨a3, c3, x3, rv⟩ := hrv t hkV
                    have hXV : X[t] = V[t] := by
                      have := HTD.out t hlt3
                      rwa [getR hkX, getR hkV] at this
                    have x5 := (HB8T.out.cell (p := ⟨bx, ox + t, none⟩) hbx).trans x5
                    have x3 := (HBVT.out.cell (p := ⟨bv, ov + t, none⟩) hbv).trans x3
                    rw [hXV] at x5 rx
                    have sx := conv_class (rx.sl.below HB8T.out) rfl
                    have sv := conv_class (rv.sl.below HBVT.out) rfl
                    generalize V[t] = z at *
                    have y3 := cell_up x3
                    have y5 := cell_up x5
                    have hk0 : (0 : Int) ≤ (t : Int) := by omega
                    clear hrx hrv rx rv hXV x3 x5
                    go_wp2_with fail
                    refine grow_begin (by kernel_rfl) ?_
                    refine grow_take (by kernel_rfl) [0, 1, 2, 3, 4, 5, 6, 7, 8, 9, 10] 0 _ _ (by kernel_rfl) ?_
                    simp only [opsAt, List.getElem?_toArray, List.getElem?_cons_succ, List.getElem?_cons_zero]
                    repeat (first | go_big_quiet_step (fail) | quiet_step (fail))
                    refine wpQuiet_nil ?_
                    intro wz hwz8
                    have hbz := below_of_up hwz8
                    refine grow_done (by kernel_rfl) ?_
                    have HBZ : Hid (Below w9.heap.size w9 wz) := HBT.out.trans (hbz.mono HBT.out.size)
                    clear y3 y5 sx sv hbz hwz8
                    go_wp2_with fail
                    go_roundg (j - (t + 1))
                    case measure => omega
                    case rel => exact ⟨t + 1, by omega, Nat.le_refl _, by first | rfl | go_num | (congr 1; omega), HBZ⟩
                  · obtain rfl : t = j := by omega
                    have hltz3 : ¬ (t : Int) < (t : Int) := by omega
                    go_wp2_with fail
                    go_ret
                    exact ⟨rfl, HBN.out⟩
end Go.Proofs.Ytiglmoggpjgmbaa
