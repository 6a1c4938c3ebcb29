/-
  Package dense's formed and Solve, walked.
-/
import Derived.Test.YtiglmoggpjgmbaaReduceW
namespace Go.Proofs.Ytiglmoggpjgmbaa
open Go.ChangeShapes Go.WideShapes Go.ChangeAt Go.RowKit Go.Joins
set_option linter.unusedVariables false

def rightLen (right : Rws) : Nat := (right.getD 0 []).length
/-- Equations for n unknowns. -/
def formedB (rows right : Rws) (n : Int) : Bool := decide (0 ≤ n) && decide ((longN rows : Int) ≤ n) && decide (right.length = rows.length) && right.all fun r => decide (r.length = rightLen right)
theorem formedB_iff {rows right : Rws} {n : Int} : formedB rows right n = true ↔ 0 ≤ n ∧ (longN rows : Int) ≤ n ∧ right.length = rows.length ∧ ∀ r ∈ right, r.length = rightLen right := by
  simp [formedB, and_assoc]

set_option maxRecDepth 100000 in
set_option maxHeartbeats 2000000 in
theorem formed_any (B : Nat) (a ga : Option Addr) (cap gc : Nat) (rows right : Rws) (n : Int) (w : World) (hs : Rs B w a cap rows) (hg : Rs B w ga gc right) (hn1 : -9223372036854775808 ≤ n) (hn2 : n ≤ 9223372036854775807) :
    Calls Try.prog 22 #[.slice a rows.length cap, .slice ga right.length gc, .int .i64 n] w fun e w' => e = .returned (.bool (formedB rows right n)) ∧ w = w' := by
  have HL := Lib.hid (fun w (h : Rs B w a cap rows) => longest_any B a cap rows w h)
  have HS := Lib.hid hs
  have HG := Lib.hid hg
  have hlm := hs.lt
  have hlm2 := hg.lt
  have hll : longN rows ≤ 9223372036854775807 := longN_le fun x hx => by
    rcases hs.here with rfl | ⟨b, off, _, _, hr⟩
    · simp at hx
    · obtain ⟨i, hi, rfl⟩ := List.getElem_of_mem hx
      obtain ⟨_, _, _, k⟩ := hr i hi
      exact k.sl.lt
  clear hs hg
  by_cases h1 : n < 0
  · have HF : Hid (formedB rows right n = false) := by
      show _ = _
      rw [Bool.eq_false_iff]
      intro h; have := (formedB_iff.1 h).1; omega
    have hd : decide (n < 0) = true := by simpa using h1
    go_enter Try.func22, Try.ntmps22
    go_wp2_with fail
    go_ret
    exact ⟨ret_bool HF.out.symm, rfl⟩
  · have hd : decide (n < 0) = false := by simpa using h1
    by_cases h2 : n < (longN rows : Int)
    · have HF : Hid (formedB rows right n = false) := by
        show _ = _
        rw [Bool.eq_false_iff]
        intro h; have := (formedB_iff.1 h).2.1; omega
      have hd2 : decide (n < (longN rows : Int)) = true := by simpa using h2
      go_enter Try.func22, Try.ntmps22
      go_wp2_with fail
      (with_reducible refine (HL.out _ HS.out).mono ?_)
      rintro e w' ⟨rfl, rfl⟩
      go_wp2_with fail
      go_ret
      exact ⟨ret_bool HF.out.symm, rfl⟩
    · have hd2 : decide (n < (longN rows : Int)) = false := by simpa using h2
      by_cases h3 : right.length = rows.length
      · have H3 := Lib.hid h3
        have hq : (((right.length : Nat) : Int) != ((rows.length : Nat) : Int)) = false := by simp; omega
        clear h3
        go_enter Try.func22, Try.ntmps22
        go_wp2_with fail
        (with_reducible refine (HL.out _ HS.out).mono ?_)
        rintro e w' ⟨rfl, rfl⟩
        go_wp2_with fail
        go_loop [26] (fun i => ∃ k : Nat, k ≤ right.length ∧ i = .int .i64 k ∧ Hid (∀ j (h : j < right.length), j < k → right[j].length = rightLen right)) (fun i => right.length - (intOf i).toNat)
        case atStart => exact ⟨0, by omega, rfl, fun j _ h => by omega⟩
        case round =>
          obtain ⟨k, hk, rfl, HT⟩ := hrel
          by_cases hlt : k < right.length
          · have hltz : (k : Int) < (right.length : Int) := by omega
            have hpos : 0 < right.length := by omega
            obtain ⟨b, off, rfl, hB, hr⟩ := HG.out.some hlt
            obtain ⟨ai, ci, hck, hrw⟩ := hr k hlt
            obtain ⟨a0, c0, hc0, hrw0⟩ := hr 0 hpos
            rw [Nat.add_zero] at hc0
            have hs1 := hrw.sl.lt
            have hs0 := hrw0.sl.lt
            have HR0 : Hid (rightLen right = right[0].length) := by show _ = _; unfold rightLen; rw [getR hpos]
            have hz0 : (0 : Int) < (right.length : Int) := by omega
            by_cases he : right[k].length = right[0].length
            · have hq1 : (((right[k].length : Nat) : Int) != ((right[0].length : Nat) : Int)) = false := by simp; omega
              have HX : Hid (∀ j (h : j < right.length), j < k + 1 → right[j].length = rightLen right) := fun j h hj => by
                by_cases e : j = k
                · subst e; rw [HR0.out]; exact he
                · exact HT.out j h (by omega)
              clear hr hrw hrw0 he
              generalize right[k] = x at *
              generalize right[0] = y at *
              go_wp2_with fail
              go_round
              case rel => exact ⟨k + 1, by omega, by go_num, HX⟩
              case measure => simp [intOf]; omega
            · have hq1 : (((right[k].length : Nat) : Int) != ((right[0].length : Nat) : Int)) = true := by simp; omega
              have HF : Hid (formedB rows right n = false) := by
                show _ = _
                rw [Bool.eq_false_iff]
                intro h
                have := (formedB_iff.1 h).2.2.2 _ (List.getElem_mem hlt)
                rw [HR0.out] at this
                exact he this
              clear hr hrw hrw0 he
              generalize right[k] = x at *
              generalize right[0] = y at *
              go_wp2_with fail
              go_ret
              exact ⟨ret_bool HF.out.symm, rfl⟩
          · obtain rfl : k = right.length := by omega
            have hltz : ¬ (right.length : Int) < (right.length : Int) := by omega
            have HF : Hid (formedB rows right n = true) := by
              show _ = _
              rw [formedB_iff]
              refine ⟨by omega, by omega, H3.out, fun r hr => ?_⟩
              obtain ⟨j, hj, rfl⟩ := List.getElem_of_mem hr
              exact HT.out j hj hj
            go_wp2_with fail
            go_ret
            exact ⟨ret_bool HF.out.symm, rfl⟩
      · have HF : Hid (formedB rows right n = false) := by
          show _ = _
          rw [Bool.eq_false_iff]
          intro h; exact h3 (formedB_iff.1 h).2.2.1
        have hq : (((right.length : Nat) : Int) != ((rows.length : Nat) : Int)) = true := by simp; omega
        go_enter Try.func22, Try.ntmps22
        go_wp2_with fail
        (with_reducible refine (HL.out _ HS.out).mono ?_)
        rintro e w' ⟨rfl, rfl⟩
        go_wp2_with fail
        go_ret
        exact ⟨ret_bool HF.out.symm, rfl⟩

def solRows (N : Nat) (st : List St) (k : Nat) : Rws := (List.range k).map fun j => (clearL N st j).right
theorem solRows_snoc (N : Nat) (st : List St) (k : Nat) : solRows N st (k + 1) = solRows N st k ++ [(clearL N st k).right] := by simp [solRows, List.range_succ]
/-- What Solve answers, of equations. -/
inductive SolveSays (N : Nat) (st : List St) (zs : List Ln) (w' : World) : Ending → Prop where
  | rank (h : st.length < N) : SolveSays N st zs w' (.returned (.tuple #[.slice none 0 0, .int .i64 9]))
  | sum (h : N ≤ st.length) (hz : allZ zs = false) : SolveSays N st zs w' (.returned (.tuple #[.slice none 0 0, .int .i64 11]))
  | ok (h : N ≤ st.length) (hz : allZ zs = true) (a : Option Addr) (c : Nat) (hr : Rs w'.heap.size w' a c (solRows N st st.length)) : SolveSays N st zs w' (.returned (.tuple #[.slice a st.length c, .int .i64 0]))
def SolvePost (N : Nat) (rows right : Rws) (w : World) (e : Ending) (w' : World) : Prop :=
  ∃ D st zs, D.Perm (List.zipWith Ln.mk rows right) ∧ Inv (rightLen right) N D st zs ∧ SolveSays N st zs w' e ∧ Below w.heap.size w w'

theorem solve_bad (B : Nat) (a ga : Option Addr) (cap gc : Nat) (rows right : Rws) (n : Int) (w : World) (hs : Rs B w a cap rows) (hg : Rs B w ga gc right) (hn1 : -9223372036854775808 ≤ n) (hn2 : n ≤ 9223372036854775807) (hf : formedB rows right n = false) :
    Calls Try.prog 14 #[.slice a rows.length cap, .slice ga right.length gc, .int .i64 n] w fun e w' => e = .returned (.tuple #[.slice none 0 0, .int .i64 1]) ∧ w = w' := by
  have h := formed_any B a ga cap gc rows right n w hs hg hn1 hn2
  rw [hf] at h
  have H := Lib.hid h
  clear h hf hs hg
  go_enter Try.func14, Try.ntmps14
  go_wp2_with fail
  (with_reducible refine H.out.mono ?_)
  rintro e w' ⟨rfl, rfl⟩
  go_wp2_with fail
  go_ret2
  exact ⟨rfl, rfl⟩

set_option maxRecDepth 100000 in
set_option maxHeartbeats 4000000 in
theorem solve_any (B : Nat) (a ga : Option Addr) (cap gc : Nat) (rows right : Rws) (N : Nat) (w : World) (hB : B ≤ w.heap.size) (hs : Rs B w a cap rows) (hg : Rs B w ga gc right) (hN : N ≤ 1000) (hl : rows.length ≤ 1000) (hM : rightLen right ≤ 1000) (hf : formedB rows right (N : Int) = true) :
    Calls Try.prog 14 #[.slice a rows.length cap, .slice ga right.length gc, .int .i64 (N : Int)] w (SolvePost N rows right w) := by
  have hfo := formed_any B a ga cap gc rows right (N : Int) w hs hg (by omega) (by omega)
  rw [hf] at hfo
  obtain ⟨-, hlong, hlen, hrl⟩ := formedB_iff.1 hf
  have hrow : ∀ x ∈ rows, x.length ≤ N := fun x hx => by have := longN_ge x hx; omega
  have hlin := lines_any B a ga cap gc rows right w hB hs hg hlen (by omega) (fun x hx => by have := hrow x hx; omega) (fun x hx => by rw [hrl x hx]; omega)
  have HL := Lib.hid hlin
  have HD : Hid (∀ w2 g ps, w.heap.size ≤ g → w2.heap[g]? = some (.cells (enc3 (ps.map (·.1))).toArray 48 (0, 0)) → Lns w.heap.size w2 ps → (ps.map (·.2)).Perm (List.zipWith Ln.mk rows right) → (ps.map fun p => p.2.row.length).Pairwise (· ≤ ·) → Below w.heap.size w w2 →
      Calls Try.prog 18 #[.slice (some ⟨g, 0, none⟩) rows.length rows.length] w2 (DonePost (rightLen right) N rows right w)) := fun w2 g ps h1 h2 h3 h4 h5 h6 =>
    done_any hl hM hN hs.byte hg.byte hrow hrl hlen h1 h2 h3 h4 h5 h6
  have HFO := Lib.hid hfo
  have hlm := hs.lt
  have hlm2 := hg.lt
  have HM := Lib.hid hM
  clear hs hg hf hfo hlong hlen hrl hrow hlin
  go_enter Try.func14, Try.ntmps14
  go_wp2_with fail
  (with_reducible refine HFO.out.mono ?_)
  rintro e w' ⟨rfl, rfl⟩
  go_wp2_with fail
  (with_reducible refine HL.out.mono ?_)
  rintro e w2 ⟨g, ps, rfl, h1, h2, h3, h4, h5, h6⟩
  have hd := HD.out w2 g ps h1 h2 h3 h4 h5 h6
  clear h1 h2 h3 h4 h5 h6 HL HD HFO
  go_wp2_with fail
  (with_reducible refine hd.mono ?_)
  rintro e w3 ⟨v, ys, zs, rfl, E⟩
  obtain ⟨D, hp, hinv⟩ := E.inv
  have HI := Lib.hid (And.intro hp hinv)
  have HB3 := Lib.hid E.low
  obtain ⟨B3, hb3, ho3⟩ := E.own
  obtain ⟨a3, c3, rfl, hc1, hc2, -, -⟩ := own_form ho3
  have hc3 : c3 ≤ 9223372036854775807 := by unfold maxLen at hc1; omega
  have hcl := cleared_any E HM.out hN
  have hfew : ys.length ≤ N := by
    have := hinv.few
    rwa [List.length_map] at this
  clear hd E hb3 ho3 hc1 hp hinv
  by_cases hlt : ys.length < N
  · have hltz : (ys.length : Int) < (N : Int) := by omega
    go_wp2_with fail
    go_ret2
    exact ⟨D, ys.map (·.2), zs, HI.out.1, HI.out.2, .rank (by rw [List.length_map]; exact hlt), HB3.out⟩
  · have hltz : ¬ (ys.length : Int) < (N : Int) := by omega
    obtain ⟨b, hb⟩ : ∃ b, b = allZ zs := ⟨_, rfl⟩
    have HZ := Lib.hid hb.symm
    rw [← hb]
    clear hb
    cases b with
    | false =>
      go_wp2_with fail
      go_ret2
      exact ⟨D, ys.map (·.2), zs, HI.out.1, HI.out.2, .sum (by rw [List.length_map]; omega) HZ.out, HB3.out⟩
    | true =>
      go_wp2_with fail
      (with_reducible refine hcl.mono ?_)
      rintro e w4 ⟨xs, rfl, C, hb4⟩
      have HC := Lib.hid C
      have HB4 := Lib.hid hb4
      have hxl : Hid (xs.length = ys.length) := C.len
      have hz4 : w.heap.size ≤ w4.heap.size := hb4.size
      have hyz : ys.length ≤ 1000 := by omega
      clear hcl C hb4
      go_wp2_with fail
      go_loopw [10, 36] (fun v6 i wr => ∃ k : Nat, k ≤ ys.length ∧ i = .int .i64 k ∧ Hid (Own w4.heap.size wr v6 (solRows N (ys.map (·.2)) k)) ∧ Hid (Keep w4.heap.size w4 wr)) (fun _ i _ => ys.length - (intOf i).toNat)
      case atStart => exact ⟨0, by omega, rfl, Own.nil _ _, Keep.refl _ _⟩
      case round =>
        obtain ⟨k, hk, rfl, HO, HK⟩ := hrel
        by_cases hltk : k < ys.length
        · have hltkz : (k : Int) < (ys.length : Int) := by omega
          have hkx : k < xs.length := by rw [hxl.out]; exact hltk
          obtain ⟨B5, cur, rfl, hSB⟩ := HC.out.ls.some hkx
          have hck := hSB.cells k hkx
          have hB5 : B5 < w4.heap.size := hck.lt
          have hbw : Below w4.heap.size w4 wr := HK.out.below (Nat.le_refl _)
          obtain ⟨s0, s1, s2⟩ := hck.cell
          have s0 := (hbw.cell (p := ⟨B5, k * 3, none⟩) hB5).trans s0
          have s1 := (hbw.cell (p := ⟨B5, k * 3 + 1, none⟩) hB5).trans s1
          have s2 := (hbw.cell (p := ⟨B5, k * 3 + 2, none⟩) hB5).trans s2
          obtain ⟨hline, hld⟩ := HC.out.line k hkx hltk
          have hok := (clear_any (i := k) HI.out.2.okS HI.out.2.up (by rw [List.length_map]; exact hltk)).ok
          have hclen : (clearL N (ys.map (·.2)) k).right.length ≤ 1000 := by rw [hok.len]; exact HM.out
          have hrw4 : Rw w4.heap.size w4 (some ⟨xs[k].gb, 0, none⟩) xs[k].gl (clearL N (ys.map (·.2)) k).right := by
            have := Rw.of_sl (hline.right.sl hok.right (by omega))
            rwa [← hline.gl] at this
          have HRW := Lib.hid (hrw4.keep HK.out)
          have HRL : Hid (xs[k].gl = (clearL N (ys.map (·.2)) k).right.length) := hline.gl
          have HSN := Lib.hid (solRows_snoc N (ys.map (·.2)) k)
          have hlr : (solRows N (ys.map (·.2)) k).length ≤ 100000 := by simp [solRows]; omega
          generalize (clearL N (ys.map (·.2)) k).right = m at *
          generalize xs[k] = x at *
          have hwz : w4.heap.size ≤ wr.heap.size := HK.out.size
          clear hSB hck hbw hline hld hok hclen hrw4
          go_upto_region 13 with fail
          have HBA := Lib.hid ((Below.refl wr.heap.size wr).alloc (Nat.le_refl _) (.cells #[.slice (some ⟨x.rb, 0, none⟩) x.rl x.rl, .slice (some ⟨x.gb, 0, none⟩) x.gl x.gl, .int .i64 x.ld] 48))
          have b1 : (wr.alloc (.cells #[.slice (some ⟨x.rb, 0, none⟩) x.rl x.rl, .slice (some ⟨x.gb, 0, none⟩) x.gl x.gl, .int .i64 x.ld] 48)).cell? ⟨wr.heap.size, 1, none⟩ = some (.slice (some ⟨x.gb, 0, none⟩) x.gl x.gl) := by simp
          have HOA := Lib.hid (HO.out.keep HBA.out)
          have HKA := Lib.hid (HK.out.trans (Keep.of_below HBA.out))
          have HRA := Lib.hid (HRW.out.below HBA.out)
          generalize wr.alloc (.cells #[.slice (some ⟨x.rb, 0, none⟩) x.rl x.rl, .slice (some ⟨x.gb, 0, none⟩) x.gl x.gl, .int .i64 x.ld] 48) = wa at *
          generalize wr.heap.size = bq at *
          clear HBA HO HK HRW s0 s1 s2
          go_wp2_with (at_builtin; refine wpList_push_rows2 _ rfl _ _ rfl w4.heap.size _ _ rfl (HOA.out.keep ((Below.refl _ _).alloc (Nat.le_refl _) _)) wa.heap.size rfl (some ⟨x.gb, 0, none⟩) x.gl m (by rw [← HRL.out]; simp) (HRA.out.below ((Below.refl _ _).alloc (Nat.le_refl _) _)) (by have := HKA.out.size; simp; omega) hlr ?_; intro v5 w5 HO5 HK5)
          have HO6 : Hid (Own w4.heap.size w5 v5 (solRows N (ys.map (·.2)) (k + 1))) := by rw [HSN.out]; exact HO5.out
          have HK6 : Hid (Keep w4.heap.size w4 w5) := (HKA.out.trans (Keep.of_below ((Below.refl _ _).alloc (Nat.le_refl _) _))).trans HK5.out.1
          clear HO5 HK5 HOA HKA HRA b1
          go_roundw
          case rel => exact ⟨k + 1, by omega, by go_num, HO6, HK6⟩
          case measure => simp [intOf]; omega
        · obtain rfl : k = ys.length := by omega
          have hltkz : ¬ (ys.length : Int) < (ys.length : Int) := by omega
          have hsl : (solRows N (ys.map (·.2)) ys.length).length = ys.length := by simp [solRows]
          obtain ⟨a1, c1, e1, hrs⟩ := HO.out.rs
          rw [hsl] at e1
          subst e1
          have HF : Hid (SolvePost N rows right w (.returned (.tuple #[.slice a1 ys.length c1, .int .i64 0])) wr) := by
            refine ⟨D, ys.map (·.2), zs, HI.out.1, HI.out.2, ?_, HB4.out.trans ((HK.out.below (Nat.le_refl _)).mono hz4)⟩
            have := SolveSays.ok (N := N) (st := ys.map (·.2)) (zs := zs) (w' := wr) (by rw [List.length_map]; omega) HZ.out a1 c1 (by rw [List.length_map]; exact hrs)
            rwa [List.length_map] at this
          clear hsl hrs HO HK
          go_wp2_with fail
          go_ret2
          exact HF.out
end Go.Proofs.Ytiglmoggpjgmbaa
