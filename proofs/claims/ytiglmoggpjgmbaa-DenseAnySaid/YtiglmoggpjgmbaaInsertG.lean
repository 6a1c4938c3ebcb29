/-
  The library's Insert at package dense's lines, where the lines move to a new row; Insert at any place.
-/
import Derived.Test.YtiglmoggpjgmbaaInsert
namespace Go.Proofs.Ytiglmoggpjgmbaa
open Go.ChangeShapes Go.WideShapes Go.ChangeAt Go.RowKit Go.Joins
set_option linter.unusedVariables false

theorem wpList_zeros3 {ops : Array Oper} {rest : List Oper} {o : Oper} {a : Act} {Q : Exit → Act → World → Prop} (w : World) (hgd : o.guard = none) (d s : Operand)
    (ho : o.op = .call { callee := .builtin .append, args := #[d, s], argTypes := #[42, 3] }) (v u : Value) (hd : a.eval d = v) (hs : a.eval s = u) {r : Value} {w' : World}
    (hr : (Builtin.append_ #[42, 3] o.type #[v, u]).run Try.prog w = .ok r w') (h : wpList Try.prog ops Q rest (a.put o.dst r) w') : wpList Try.prog ops Q (o :: rest) a w := by
  refine wpList_plain hgd fun K hK => ?_
  unfold Oper.wp
  simp [execOp, ho, resolve, invoke, builtin, hd, hs, hr, Result.andThen]
  exact hK _ _ h

set_option maxRecDepth 100000 in
set_option maxHeartbeats 2000000 in
/-- In between, where there is no room. -/
theorem insert_move (base g cap i : Nat) (cur : List Value) (xs : List LV) (y : LV) (vb : Nat) (w : World) (hg : w.heap[g]? = some (.cells cur.toArray 48 (0, 0))) (hB : base ≤ w.heap.size) (hct : cur.take (xs.length * 3) = enc3 xs) (hn : xs.length ≤ 1000)
    (hi : i < xs.length) (hroom : cap < xs.length + 1) (hlc : xs.length ≤ cap) (hy : w.heap[vb]? = some (.cells (enc3 [y]).toArray 48 (0, 0))) :
    Calls Try.prog 32 #[.slice (some ⟨g, 0, none⟩) xs.length cap, .int .i64 (i : Int), .slice (some ⟨vb, 0, none⟩) 1 1] w (InsPost base (.slice (some ⟨g, 0, none⟩) xs.length cap) xs i y w) := by
  obtain ⟨C, cz, hr, hC1, hC2, hC3, hC4⟩ := run_zeros3 w 42 g cap i (xs.length + 1 - i) cur xs hg hct (by omega) (by omega) (by omega) (by omega)
  rw [show i + (xs.length + 1 - i) = xs.length + 1 by omega] at hr hC1
  rw [show ((xs.length + 1 - i : Nat) : Int) = (xs.length : Int) + 1 - (i : Int) by omega] at hr
  have hglt : g < w.heap.size := (Array.getElem?_eq_some_iff.1 hg).1
  have hvlt : vb < w.heap.size := (Array.getElem?_eq_some_iff.1 hy).1
  have hH : (w.drew.alloc (.cells cz.toArray 48)).heap[w.heap.size]? = some (.cells cz.toArray 48 (0, 0)) := heap_alloc_new w.drew _
  have hg1 : (w.drew.alloc (.cells cz.toArray 48)).heap[g]? = some (.cells cur.toArray 48 (0, 0)) := (heap_alloc_old w.drew _ hglt).trans hg
  have hy1 : (w.drew.alloc (.cells cz.toArray 48)).heap[vb]? = some (.cells (enc3 [y]).toArray 48 (0, 0)) := (heap_alloc_old w.drew _ hvlt).trans hy
  have hgb : w.grownBy (w.drew.alloc (.cells cz.toArray 48)) none := ⟨rfl, rfl, rfl, by simp, fun k hk _ => heap_alloc_old w.drew _ hk⟩
  generalize w.drew.alloc (.cells cz.toArray 48) = w1 at *
  have hgne : g ≠ w.heap.size := by omega
  have hvne : vb ≠ w.heap.size := by omega
  generalize hHH : w.heap.size = H at *
  have hdl : (enc3 (xs.drop i)).length = (xs.length - i) * 3 := by rw [enc3_len, List.length_drop]
  have hyl : (enc3 [y]).length = 3 := by rw [enc3_len]; rfl
  have hfit : (i + 1) * 3 + (enc3 (xs.drop i)).length ≤ cz.length := by rw [hdl, hC3]; omega
  have hfit0 : i * 3 + (enc3 [y]).length ≤ cz.length := by rw [hyl, hC3]; omega
  have hc1 := run_copy3 w1 3 H (i * 3) (xs.length + 1 - i) (C - i) ⟨vb, 0, none⟩ 1 1 cz 48 (enc3 [y]) 1 hH (by show 1 = min _ _; omega) (by rw [enc3_len]; rfl) (line_src hy1) hfit0 enc3_one
  have hH2 : (w1.setRow H (splice cz (i * 3) (enc3 [y])).toArray).heap[H]? = some (.cells (splice cz (i * 3) (enc3 [y])).toArray 48 (0, 0)) := setRow_heap _ _ _ _ _ _ hH
  have hg2 : (w1.setRow H (splice cz (i * 3) (enc3 [y])).toArray).heap[g]? = some (.cells cur.toArray 48 (0, 0)) := (Go.setRow_other _ _ _ _ hgne).trans hg1
  have hgb2 : w.grownBy (w1.setRow H (splice cz (i * 3) (enc3 [y])).toArray) none := by
    refine ⟨hgb.os, hgb.tape, hgb.output, by rw [hHH]; have := hgb.size; rw [hHH] at this; simpa [World.setRow] using this, fun k hk _ => ?_⟩
    rw [Go.setRow_other _ _ _ _ (by omega)]; exact hgb.block k hk (by simp)
  have hl1 : (splice cz (i * 3) (enc3 [y])).length = C * 3 := by rw [length_splice _ _ _ hfit0]; exact hC3
  have hR : (splice (splice cz (i * 3) (enc3 [y])) ((i + 1) * 3) (enc3 (xs.drop i))).take ((xs.length + 1) * 3) = enc3 (insAt xs i y) := by
    have := ins_grow (R := cz) (D := enc3 (xs.drop i)) (Y := enc3 [y]) (T := enc3 (xs.take i)) (i := i * 3) (by rw [hC3]; omega) hC4 hyl (by rw [hdl, hC3]; omega)
    rw [show i * 3 + 3 = (i + 1) * 3 by omega, hdl, show (i + 1) * 3 + (xs.length - i) * 3 = (xs.length + 1) * 3 by omega] at this
    rw [this, ← enc3_app, ← enc3_app]
    rfl
  have hl2 : (splice (splice cz (i * 3) (enc3 [y])) ((i + 1) * 3) (enc3 (xs.drop i))).length = C * 3 := by rw [length_splice _ _ _ (by rw [hl1, hdl]; omega)]; exact hl1
  generalize splice cz (i * 3) (enc3 [y]) = c1 at *
  have hsrc : ∀ j v, (enc3 (xs.drop i))[j]? = some v → (w1.setRow H c1.toArray).drew.cell? ((⟨g, i * 3, none⟩ : Addr).add j) = some v := fun j v hv => by
    have hc : (w1.setRow H c1.toArray).drew.cell? ⟨g, i * 3 + j, none⟩ = some v := by
      show (w1.setRow H c1.toArray).cell? _ = _
      rw [cell_of_block hg2]
      rw [← enc3_drop xs i (by omega), List.getElem?_drop, ← hct, List.getElem?_take] at hv
      split at hv
      · simpa using hv
      · cases hv
    by_cases j0 : j = 0
    · subst j0; simpa [Addr.add] using hc
    · simpa [Addr.add, j0] using hc
  have hc2 := run_copy3 (w1.setRow H c1.toArray).drew 3 H ((i + 1) * 3) (xs.length - i) (C - (i + 1)) ⟨g, i * 3, none⟩ (xs.length - i) (cap - i) c1 48 (enc3 (xs.drop i)) (xs.length - i) hH2 (by show _ = min _ _; omega) hdl hsrc (by rw [hl1, hdl]; omega) enc3_one
  generalize w1.setRow H c1.toArray = w2 at *
  have hI : (enc3 (insAt xs i y)).length = (xs.length + 1) * 3 := by rw [enc3_len, insAt_length _ _ _ (by omega)]
  have hH3 : (w2.drew.setRow H (splice c1 ((i + 1) * 3) (enc3 (xs.drop i))).toArray).heap[H]? = some (.cells (splice c1 ((i + 1) * 3) (enc3 (xs.drop i))).toArray 48 (0, 0)) := setRow_heap _ _ _ _ _ _ hH2
  have hgb3 : w.grownBy (w2.drew.setRow H (splice c1 ((i + 1) * 3) (enc3 (xs.drop i))).toArray) (some g) := by
    refine ⟨hgb2.os, hgb2.tape, hgb2.output, by have := hgb2.size; simpa [World.setRow] using this, fun k hk _ => ?_⟩
    rw [Go.setRow_other _ _ _ _ (by omega)]; exact hgb2.block k hk (by simp)
  generalize splice c1 ((i + 1) * 3) (enc3 (xs.drop i)) = c2 at *
  have HR0 := Lib.hid hr
  have HC1 := Lib.hid hc1
  have HC2 := Lib.hid hc2
  have HR := Lib.hid hR
  have HL2 := Lib.hid hl2
  have HI := Lib.hid hI
  have HH3 := Lib.hid hH3
  have HGB := Lib.hid hgb3
  have HCM := Lib.hid hC2
  unfold maxLen at hC2
  have hne : ((i : Int) == (xs.length : Int)) = false := by simp; omega
  have i1 : (0 : Int) ≤ (i : Int) := by omega
  have i2 : (i : Int) ≤ (xs.length : Int) := by omega
  have i3 : ¬ cap = i := by omega
  have i4 : ¬ C = i := by omega
  have i5 : (cap : Int) < (xs.length : Int) + 1 := by omega
  have i6 : ¬ C = i + 1 := by omega
  clear hr hC3 hC4 hg hct hy hH hg1 hy1 hgb hHH hdl hyl hfit hfit0 hc1 hH2 hg2 hgb2 hl1 hR hl2 hsrc hc2 hI hH3 hgb3 hgne hvne
  go_enter Try.func32, Try.ntmps32
  go_wp2_with (first | (at_builtin; refine wpList_zeros3 _ rfl (.tmp 34) (.tmp 39) rfl _ _ rfl rfl HR0.out ?_) | (refine wpList_copy3 _ rfl (.tmp 43) (.tmp 44) rfl _ _ rfl rfl HC1.out ?_))
  go_frame
  have j1 : (0 : Int) ≤ (i : Int) + 1 := by omega
  have j2 : (i : Int) + 1 ≤ (xs.length : Int) + 1 := by omega
  have j3 : ((i : Int) + 1).toNat = i + 1 := by omega
  have j4 : IntKind.i64.wrap ((i : Int) + 1) = (i : Int) + 1 := IntWalk.i64_in _ (by omega)
  have j5 : xs.length + 1 - (i + 1) = xs.length - i := by omega
  go_still_tail 8, (by kernel_rfl)
  clear j1 j2 j3 j4 j5
  change wpList _ _ _ _ _ w2.drew
  refine wpList_copy3 _ rfl (.tmp 50) (.tmp 53) rfl _ _ rfl rfl HC2.out ?_
  go_frame
  go_wp2_with fail
  go_ret
  exact ⟨_, rfl, ⟨HI.out, .inr ⟨H, C, c2.toArray, rfl, hB, HH3.out, hC1, HCM.out, by simpa using HL2.out, by simpa using HR.out⟩⟩, HGB.out⟩

/-- At any place. -/
theorem insert_any (base : Nat) (v : Value) (xs : List LV) (i : Nat) (y : LV) (vb : Nat) (w : World) (hown : w.ownsRow base 48 3 v xs.length (enc3 xs)) (hB : base ≤ w.heap.size) (hn : xs.length ≤ 1000) (hi : i ≤ xs.length)
    (hy : w.heap[vb]? = some (.cells (enc3 [y]).toArray 48 (0, 0))) (hvb : v.ownBlock ≠ some vb) :
    Calls Try.prog 32 #[v, .int .i64 (i : Int), .slice (some ⟨vb, 0, none⟩) 1 1] w (InsPost base v xs i y w) := by
  rcases hown.2 with ⟨rfl, h0⟩ | ⟨g, cap, cur, rfl, hb, hg, h1, h2, h3, h4⟩
  · obtain rfl : i = xs.length := by omega
    have := insert_end base none 0 xs y vb w (by rw [h0]; rw [h0] at hown; exact hown) hB hn hy (by unfold maxLen; omega) (by omega)
    rw [h0] at this ⊢
    exact this
  · by_cases e : i = xs.length
    · subst e
      exact insert_end base _ cap xs y vb w hown hB hn hy h2 h1
    · have hg' : w.heap[g]? = some (.cells cur.toList.toArray 48 (0, 0)) := by rw [Array.toArray_toList]; exact hg
      by_cases hroom : xs.length + 1 ≤ cap
      · exact insert_shift base g cap i cur.toList xs y vb w hg' hb (by simpa using h3) h4 hn (by omega) hroom hy h2 (fun e' => hvb (by simp [Value.ownBlock, e']))
      · exact insert_move base g cap i cur.toList xs y vb w hg' hB h4 hn (by omega) (by omega) h1 hy
end Go.Proofs.Ytiglmoggpjgmbaa
