/-
  The library's Insert at package dense's lines.
-/
import Derived.Test.YtiglmoggpjgmbaaSearch
import Derived.Lib.AppendZerosOnto
import Derived.Lib.Overlaps
import Derived.Laws.Externs
import Derived.StillTailTactics
namespace Go.Proofs.Ytiglmoggpjgmbaa
open Go.ChangeShapes Go.WideShapes Go.ChangeAt Go.RowKit Go.Joins
set_option linter.unusedVariables false

theorem infoL : (Try.prog.info? 48).map (fun i => (i.zero, i.size, i.bytes)) = some (some (.agg #[.slice none 0 0, .slice none 0 0, .int .i64 0]), 3, 56) := by kernel_rfl

/-- The cells of lines. -/
def enc3 (xs : List LV) : List Value := xs.flatMap LV.enc
theorem enc3_len : ∀ xs : List LV, (enc3 xs).length = xs.length * 3
  | [] => rfl
  | x :: xs => by
    have := enc3_len xs
    unfold enc3 at this ⊢
    simp only [List.flatMap_cons, List.length_append, this, List.length_cons]
    simp [LV.enc]; omega
theorem enc3_app (xs ys : List LV) : enc3 (xs ++ ys) = enc3 xs ++ enc3 ys := by simp [enc3]
theorem enc3_one : ∀ {xs : List LV}, ∀ v ∈ enc3 xs, v.oneCell' = true := fun {xs} v hv => by
  obtain ⟨x, _, hx⟩ := List.mem_flatMap.1 hv
  simp only [LV.enc, List.mem_cons, List.not_mem_nil, or_false] at hx
  rcases hx with rfl | rfl | rfl <;> rfl
theorem enc3_get {xs : List LV} : ∀ {i : Nat} (h : i < xs.length), (enc3 xs)[i * 3]? = some (.slice (some ⟨xs[i].rb, 0, none⟩) xs[i].rl xs[i].rl) ∧ (enc3 xs)[i * 3 + 1]? = some (.slice (some ⟨xs[i].gb, 0, none⟩) xs[i].gl xs[i].gl) ∧ (enc3 xs)[i * 3 + 2]? = some (.int .i64 xs[i].ld) := by
  induction xs with
  | nil => intro i h; simp at h
  | cons x xs ih =>
    intro i h
    have hx : (LV.enc x).length = 3 := rfl
    have e : enc3 (x :: xs) = LV.enc x ++ enc3 xs := rfl
    rw [e]
    cases i with
    | zero =>
      refine ⟨?_, ?_, ?_⟩ <;> rw [List.getElem?_append_left (by rw [hx]; omega)] <;> rfl
    | succ i =>
      have := ih (i := i) (by simpa using h)
      simp only [List.getElem_cons_succ]
      refine ⟨?_, ?_, ?_⟩
      · rw [List.getElem?_append_right (by rw [hx]; omega), hx, show (i + 1) * 3 - 3 = i * 3 by omega]; exact this.1
      · rw [List.getElem?_append_right (by rw [hx]; omega), hx, show (i + 1) * 3 + 1 - 3 = i * 3 + 1 by omega]; exact this.2.1
      · rw [List.getElem?_append_right (by rw [hx]; omega), hx, show (i + 1) * 3 + 2 - 3 = i * 3 + 2 by omega]; exact this.2.2
theorem enc3_take (xs : List LV) (i : Nat) : (enc3 xs).take (i * 3) = enc3 (xs.take i) := by
  by_cases h : i ≤ xs.length
  · conv => lhs; rw [← List.take_append_drop i xs, enc3_app]
    rw [List.take_append_of_le_length (by rw [enc3_len, List.length_take]; omega), List.take_of_length_le (by rw [enc3_len, List.length_take]; omega)]
  · rw [List.take_of_length_le (by rw [enc3_len]; omega), List.take_of_length_le (by omega)]
theorem enc3_drop (xs : List LV) (i : Nat) (h : i ≤ xs.length) : (enc3 xs).drop (i * 3) = enc3 (xs.drop i) := by
  conv => lhs; rw [← List.take_append_drop i xs, enc3_app]
  rw [List.drop_append_of_le_length (by rw [enc3_len, List.length_take]; omega), List.drop_of_length_le (by rw [enc3_len, List.length_take]; omega), List.nil_append]

/-- The two orders in which a line is put in between. -/
theorem ins_shift {R D Y T : List Value} {i : Nat} (hi : i + 3 ≤ R.length) (hT : R.take i = T) (hY : Y.length = 3) (hf : i + 3 + D.length ≤ R.length) :
    (splice (splice R (i + 3) D) i Y).take (i + 3 + D.length) = T ++ (Y ++ D) := by
  have h1 : (R.take (i + 3)).length = i + 3 := by rw [List.length_take]; omega
  have hTl : T.length = i := by rw [← hT, List.length_take]; omega
  have a1 : (splice R (i + 3) D).take i = T := by
    unfold splice
    rw [List.take_append_of_le_length (by rw [h1]; omega), List.take_take, Nat.min_eq_left (by omega), hT]
  have a2 : (splice R (i + 3) D).drop (i + 3) = D ++ R.drop (i + 3 + D.length) := by
    unfold splice
    rw [List.drop_append_of_le_length (by rw [h1]; omega), List.drop_of_length_le (by rw [h1]; omega), List.nil_append]
  have : splice (splice R (i + 3) D) i Y = T ++ (Y ++ (D ++ R.drop (i + 3 + D.length))) := by
    show List.take i _ ++ (Y ++ List.drop (i + Y.length) _) = _
    rw [hY, a1, a2]
  rw [this, ← List.append_assoc, ← List.append_assoc, List.take_append_of_le_length (by simp only [List.length_append]; omega), List.take_of_length_le (by simp only [List.length_append]; omega), List.append_assoc]
theorem ins_grow {R D Y T : List Value} {i : Nat} (hi : i + 3 ≤ R.length) (hT : R.take i = T) (hY : Y.length = 3) (hf : i + 3 + D.length ≤ R.length) :
    (splice (splice R i Y) (i + 3) D).take (i + 3 + D.length) = T ++ (Y ++ D) := by
  have hTl : T.length = i := by rw [← hT, List.length_take]; omega
  have a1 : (splice R i Y).take (i + 3) = T ++ Y := by
    unfold splice
    rw [hT, ← List.append_assoc, List.take_append_of_le_length (by simp only [List.length_append]; omega), List.take_of_length_le (by simp only [List.length_append]; omega)]
  show ((splice R i Y).take (i + 3) ++ (D ++ _)).take _ = _
  rw [a1, ← List.append_assoc, List.take_append_of_le_length (by simp only [List.length_append]; omega), List.take_of_length_le (by simp only [List.length_append]; omega), List.append_assoc]

/-- 'copy' of lines into a row that is known whole. -/
theorem run_copy3 (w : World) (ty : TypeId) (g o dLen dCap : Nat) (ad : Addr) (sLen sCap : Nat) (cur : List Value) (t : TypeId) (cs : List Value) (n : Nat)
    (hg : w.heap[g]? = some (.cells cur.toArray t (0, 0))) (hn : n = Nat.min sLen dLen) (hcl : cs.length = n * 3)
    (hsrc : ∀ j v, cs[j]? = some v → w.cell? (ad.add j) = some v) (hfit : o + cs.length ≤ cur.length) (h1 : ∀ v ∈ cs, v.oneCell' = true) :
    (Builtin.copy_ #[42, 42] ty #[.slice (some ⟨g, o, none⟩) dLen dCap, .slice (some ad) sLen sCap]).run Try.prog w =
      .ok (goInt n) (w.setRow g (splice cur o cs).toArray) := by
  obtain ⟨i0, hi, hz0, hz1, hz2⟩ := info_parts infoL
  have hl := run_firstCells_some (P := Try.prog) w 3 n ad sLen sCap cs hcl hsrc
  have hst := run_storeCells_at Try.prog g o t cs 0 cur.toArray w hg (by simpa using hfit) h1
  simp only [Nat.add_zero] at hst
  simp [Builtin.copy_, run_underlying Try.underlying42, Builtin.lenOf, sizeOf, typeInfo, hi, hz1, ← hn, hl, hst, splice]

theorem wpList_copy3 {ops : Array Oper} {rest : List Oper} {o : Oper} {a : Act} {Q : Exit → Act → World → Prop} (w : World) (hgd : o.guard = none) (d s : Operand)
    (ho : o.op = .call { callee := .builtin .copy, args := #[d, s], argTypes := #[42, 42] }) (v u : Value) (hd : a.eval d = v) (hs : a.eval s = u) {r : Value} {w' : World}
    (hr : (Builtin.copy_ #[42, 42] o.type #[v, u]).run Try.prog w = .ok r w') (h : wpList Try.prog ops Q rest (a.put o.dst r) w') : wpList Try.prog ops Q (o :: rest) a w := by
  refine wpList_plain hgd fun K hK => ?_
  unfold Oper.wp
  simp [execOp, ho, resolve, invoke, builtin, hd, hs, hr, Result.andThen]
  exact hK _ _ h
theorem step_copy3 {ops : Array Oper} {o : Oper} {a : Act} {w : World} {K : Act → World → Prop} {Q : Exit → Act → World → Prop} {E : Prop} (hgd : o.guard = none) (d s : Operand)
    (ho : o.op = .call { callee := .builtin .copy, args := #[d, s], argTypes := #[42, 42] }) (v u : Value) (hd : a.eval d = v) (hs : a.eval s = u) {r : Value} {w' : World}
    (hr : (Builtin.copy_ #[42, 42] o.type #[v, u]).run Try.prog w = .ok r w') (h : K (a.put o.dst r) w') :
    if Region.wanted o (yielded ops a.tmps) = true then Oper.wp Try.prog o a w K Q else E := by
  have hw : Region.wanted o (yielded ops a.tmps) = true := by simp [Region.wanted, hgd]
  rw [if_pos hw]
  unfold Oper.wp
  simp [execOp, ho, resolve, invoke, builtin, hd, hs, hr, Result.andThen]
  exact h

def InsPost (base : Nat) (v : Value) (xs : List LV) (i : Nat) (y : LV) (w : World) (e : Ending) (w' : World) : Prop :=
  ∃ v', e = .returned v' ∧ w'.ownsRow base 48 3 v' (xs.length + 1) (enc3 (insAt xs i y)) ∧ w.grownBy w' v.ownBlock

theorem line_src {w : World} {vb : Nat} {y : LV} (hy : w.heap[vb]? = some (.cells (enc3 [y]).toArray 48 (0, 0))) : ∀ j u, (enc3 [y])[j]? = some u → w.cell? ((⟨vb, 0, none⟩ : Addr).add j) = some u := fun j u hu => by
  have : w.cell? ⟨vb, j, none⟩ = some u := by rw [cell_of_block hy]; simpa using hu
  by_cases j0 : j = 0
  · subst j0; simpa [Addr.add] using this
  · simpa [Addr.add, j0] using this

set_option maxRecDepth 100000 in
set_option maxHeartbeats 1000000 in
/-- At the end. -/
theorem insert_end (base : Nat) (a : Option Addr) (cap : Nat) (xs : List LV) (y : LV) (vb : Nat) (w : World) (hown : w.ownsRow base 48 3 (.slice a xs.length cap) xs.length (enc3 xs)) (hB : base ≤ w.heap.size) (hn : xs.length ≤ 1000)
    (hy : w.heap[vb]? = some (.cells (enc3 [y]).toArray 48 (0, 0))) (hcap : cap ≤ maxLen) (hlc : xs.length ≤ cap) :
    Calls Try.prog 32 #[.slice a xs.length cap, .int .i64 (xs.length : Int), .slice (some ⟨vb, 0, none⟩) 1 1] w (InsPost base (.slice a xs.length cap) xs xs.length y w) := by
  obtain ⟨i0, hi, hz0, hz1, hz2⟩ := info_parts infoL
  have HO := Lib.hid hown
  have HY := Lib.hid (line_src hy)
  have HI : Hid (enc3 (insAt xs xs.length y) = enc3 xs ++ enc3 [y]) := by
    show _ = _
    rw [← enc3_app]; unfold insAt; rw [List.take_length, List.drop_length]
  have heq : ((xs.length : Int) == (xs.length : Int)) = true := by simp
  unfold maxLen at hcap
  clear hown hy
  by_cases hcn : cap = xs.length
  all_goals
    go_enter Try.func32, Try.ntmps32
    go_wp2_with (at_builtin; refine wpList_append_own _ rfl (.tmp 23) (.tmp 24) 42 rfl base 48 i0 (.agg #[.slice none 0 0, .slice none 0 0, .int .i64 0]) 3 56 Try.underlying42 hi hz0 hz1 hz2 rfl (by decide) _ xs.length _ rfl HO.out ⟨vb, 0, none⟩ 1 1 (enc3 [y]) rfl rfl HY.out enc3_one (by unfold maxLen; omega) (by omega) hB ?_; intro v' w1 hown1 hg1 _)
    go_ret
    exact ⟨v', rfl, by rw [HI.out]; exact hown1, hg1⟩

set_option maxRecDepth 100000 in
set_option maxHeartbeats 2000000 in
/-- In between, where there is room. -/
theorem insert_shift (base g cap i : Nat) (cur : List Value) (xs : List LV) (y : LV) (vb : Nat) (w : World) (hg : w.heap[g]? = some (.cells cur.toArray 48 (0, 0))) (hbg : base ≤ g) (hcl : cur.length = cap * 3) (hct : cur.take (xs.length * 3) = enc3 xs) (hn : xs.length ≤ 1000)
    (hi : i < xs.length) (hroom : xs.length + 1 ≤ cap) (hy : w.heap[vb]? = some (.cells (enc3 [y]).toArray 48 (0, 0))) (hcap : cap ≤ maxLen) (hvb : vb ≠ g) :
    Calls Try.prog 32 #[.slice (some ⟨g, 0, none⟩) xs.length cap, .int .i64 (i : Int), .slice (some ⟨vb, 0, none⟩) 1 1] w (InsPost base (.slice (some ⟨g, 0, none⟩) xs.length cap) xs i y w) := by
  have HCAP := Lib.hid hcap
  unfold maxLen at hcap
  have HG := Lib.hid hg
  have HCL := Lib.hid hcl
  have HCT := Lib.hid hct
  have HY := Lib.hid hy
  have hne : ((i : Int) == (xs.length : Int)) = false := by simp; omega
  have i1 : (0 : Int) ≤ (i : Int) := by omega
  have i2 : (i : Int) ≤ (xs.length : Int) := by omega
  have i3 : ¬ cap = i := by omega
  have i4 : ¬ cap = i + 1 := by omega
  have i5 : ¬ (cap : Int) < (xs.length : Int) + 1 := by omega
  have hov : ∀ lb cb, (callFunc 40 #[.slice (some ⟨vb, 0, none⟩) 1 1, .slice (some ⟨g, (i + 1) * 3, none⟩) lb cb]).run Try.prog w = .ok (.value (.bool false)) w := fun lb cb => by
    rw [run_callFunc_extern Try.func40 (by kernel_rfl) (by kernel_rfl) (by kernel_rfl) (e := Extern.SlicesOverlaps.overlaps #[42, 42] #[4]) (by kernel_rfl),
      Lib.run_overlaps_apart w 42 4 48 Try.underlying42 3 (fun w => by kernel_rfl) ⟨vb, 0, none⟩ ⟨g, (i + 1) * 3, none⟩ 1 1 lb cb hvb 48 48 3 cur.toArray.size (by simp [World.shape?, hy, enc3_len]) (by simp [World.shape?, hg]) (by rw [List.size_toArray, hcl]; omega) (by simp [World.frozen?, hy]) (by simp [World.frozen?, hy])]
    rfl
  have HD : Hid ((enc3 (xs.drop i)).length = (xs.length - i) * 3) := by show _ = _; rw [enc3_len, List.length_drop]
  have HSRC : Hid (∀ j v, (enc3 (xs.drop i))[j]? = some v → w.drew.cell? ((⟨g, i * 3, none⟩ : Addr).add j) = some v) := fun j v hv => by
    have hc : w.drew.cell? ⟨g, i * 3 + j, none⟩ = some v := by
      show w.cell? _ = _
      rw [cell_of_block hg]
      rw [← enc3_drop xs i (by omega), List.getElem?_drop, ← hct, List.getElem?_take] at hv
      split at hv
      · simpa using hv
      · cases hv
    by_cases j0 : j = 0
    · subst j0; simpa [Addr.add] using hc
    · simpa [Addr.add, j0] using hc
  have HFIT : Hid ((i + 1) * 3 + (enc3 (xs.drop i)).length ≤ cur.length) := by show _ ≤ _; rw [enc3_len, List.length_drop, hcl]; omega
  have HN1 : Hid (xs.length - i = Nat.min (xs.length + 1 - i) (xs.length - i)) := by show _ = min _ _; omega
  have HC1 := Lib.hid (run_copy3 w.drew 3 g ((i + 1) * 3) (xs.length - i) (cap - (i + 1)) ⟨g, i * 3, none⟩ (xs.length + 1 - i) (cap - i) cur 48 (enc3 (xs.drop i)) (xs.length - i) hg HN1.out HD.out HSRC.out HFIT.out enc3_one)
  have HG1 : Hid ((w.drew.setRow g (splice cur ((i + 1) * 3) (enc3 (xs.drop i))).toArray).heap[g]? = some (.cells (splice cur ((i + 1) * 3) (enc3 (xs.drop i))).toArray 48 (0, 0))) := setRow_heap _ _ _ _ _ _ hg
  have HY1 : Hid (∀ j u, (enc3 [y])[j]? = some u → (w.drew.setRow g (splice cur ((i + 1) * 3) (enc3 (xs.drop i))).toArray).cell? ((⟨vb, 0, none⟩ : Addr).add j) = some u) :=
    line_src (by rw [Go.setRow_other _ _ _ _ hvb]; exact hy)
  have HL1 : Hid ((splice cur ((i + 1) * 3) (enc3 (xs.drop i))).length = cap * 3) := by show _ = _; rw [length_splice _ _ _ HFIT.out]; exact hcl
  have HC2 := Lib.hid (run_copy3 (w.drew.setRow g (splice cur ((i + 1) * 3) (enc3 (xs.drop i))).toArray) 3 g (i * 3) (xs.length + 1 - i) (cap - i) ⟨vb, 0, none⟩ 1 1 _ 48 (enc3 [y]) 1 HG1.out (by show 1 = min _ _; omega) (by rw [enc3_len]; rfl) HY1.out (by rw [HL1.out, enc3_len]; simp; omega) enc3_one)
  have HR : Hid ((splice (splice cur ((i + 1) * 3) (enc3 (xs.drop i))) (i * 3) (enc3 [y])).take ((xs.length + 1) * 3) = enc3 (insAt xs i y)) := by
    show _ = _
    have := ins_shift (R := cur) (D := enc3 (xs.drop i)) (Y := enc3 [y]) (T := enc3 (xs.take i)) (i := i * 3) (by rw [hcl]; omega)
      (by rw [← enc3_take, ← hct, List.take_take, Nat.min_eq_left (by omega)]) (by rw [enc3_len]; rfl) (by rw [HD.out, hcl]; omega)
    rw [show i * 3 + 3 = (i + 1) * 3 by omega, HD.out, show (i + 1) * 3 + (xs.length - i) * 3 = (xs.length + 1) * 3 by omega] at this
    rw [this, ← enc3_app, ← enc3_app]
    rfl
  have HL2 : Hid ((splice (splice cur ((i + 1) * 3) (enc3 (xs.drop i))) (i * 3) (enc3 [y])).length = cap * 3) := by show _ = _; rw [length_splice _ _ _ (by rw [HL1.out, enc3_len]; simp; omega)]; exact HL1.out
  have HI : Hid ((enc3 (insAt xs i y)).length = (xs.length + 1) * 3) := by show _ = _; rw [enc3_len, insAt_length _ _ _ (by omega)]
  have HGB : Hid (w.grownBy ((w.drew.setRow g (splice cur ((i + 1) * 3) (enc3 (xs.drop i))).toArray).setRow g (splice (splice cur ((i + 1) * 3) (enc3 (xs.drop i))) (i * 3) (enc3 [y])).toArray) (some g)) := by
    refine ⟨rfl, rfl, rfl, by simp [World.setRow], fun k hk hne => ?_⟩
    have : k ≠ g := fun e => hne (by rw [e])
    rw [Go.setRow_other _ _ _ _ this, Go.setRow_other _ _ _ _ this]; rfl
  have HG2 : Hid (((w.drew.setRow g (splice cur ((i + 1) * 3) (enc3 (xs.drop i))).toArray).setRow g (splice (splice cur ((i + 1) * 3) (enc3 (xs.drop i))) (i * 3) (enc3 [y])).toArray).heap[g]? = some (.cells (splice (splice cur ((i + 1) * 3) (enc3 (xs.drop i))) (i * 3) (enc3 [y])).toArray 48 (0, 0))) := setRow_heap _ _ _ _ _ _ HG1.out
  generalize splice (splice cur ((i + 1) * 3) (enc3 (xs.drop i))) (i * 3) (enc3 [y]) = C2 at *
  generalize splice cur ((i + 1) * 3) (enc3 (xs.drop i)) = C1 at *
  clear hg hcl hct hy
  go_enter Try.func32, Try.ntmps32
  go_wp2_with (simp only [hov])
  clear hov
  have j1 : (0 : Int) ≤ (i : Int) + 1 := by omega
  have j2 : (i : Int) + 1 ≤ (xs.length : Int) + 1 := by omega
  have j3 : ((i : Int) + 1).toNat = i + 1 := by omega
  have j4 : IntKind.i64.wrap ((i : Int) + 1) = (i : Int) + 1 := IntWalk.i64_in _ (by omega)
  have j5 : xs.length + 1 - (i + 1) = xs.length - i := by omega
  have j6 : (i : Int) ≤ (xs.length : Int) + 1 := by omega
  go_still_tail 8, (by kernel_rfl)
  clear j1 j2 j3 j4 j5 j6
  change wpList _ _ _ _ _ w.drew
  refine wpList_copy3 _ rfl (.tmp 73) (.tmp 76) rfl _ _ rfl rfl HC1.out ?_
  go_frame
  generalize w.drew.setRow g C1.toArray = w1 at *
  go_wp2_with (refine wpList_copy3 _ rfl (.tmp 80) (.tmp 81) rfl _ _ rfl rfl HC2.out ?_)
  go_ret
  exact ⟨_, rfl, ⟨HI.out, .inr ⟨g, cap, C2.toArray, rfl, hbg, HG2.out, hroom, HCAP.out, by simpa using HL2.out, by simpa using HR.out⟩⟩, HGB.out⟩

/-- 'append(s[:i], make(S, k)...)' where there is no room. -/
theorem run_zeros3 (w : World) (ty : TypeId) (g cap i k : Nat) (cur : List Value) (xs : List LV) (hg : w.heap[g]? = some (.cells cur.toArray 48 (0, 0))) (hct : cur.take (xs.length * 3) = enc3 xs) (hi : i ≤ xs.length) (hk : 0 < k) (hc : cap < i + k) (hs : i + k ≤ 1001) :
    ∃ cap' cur', (Builtin.append_ #[42, 3] ty #[.slice (some ⟨g, 0, none⟩) i cap, .int .i64 (k : Int)]).run Try.prog w = .ok (.slice (some ⟨w.heap.size, 0, none⟩) (i + k) cap') (w.drew.alloc (.cells (List.toArray cur') 48)) ∧
      i + k ≤ cap' ∧ cap' ≤ maxLen ∧ cur'.length = cap' * 3 ∧ cur'.take (i * 3) = enc3 (xs.take i) := by
  obtain ⟨i0, hi0, hz0, hz1, hz2⟩ := info_parts infoL
  have hxl : (enc3 (xs.take i)).length = i * 3 := by rw [enc3_len, List.length_take, Nat.min_eq_left hi]
  have hold : (Builtin.firstCells i0.size i (.slice (some ⟨g, 0, none⟩) i cap)).run Try.prog w.drew = .ok (enc3 (xs.take i)).toArray w.drew := by
    rw [hz1]
    refine run_firstCells_some (P := Try.prog) w.drew 3 i ⟨g, 0, none⟩ i cap _ hxl fun j v hv => ?_
    have hc : w.drew.cell? ⟨g, j, none⟩ = some v := by
      show w.cell? _ = _
      rw [cell_of_block hg]
      rw [← enc3_take, ← hct, List.take_take, List.getElem?_take] at hv
      split at hv
      · simpa using hv
      · cases hv
    by_cases j0 : j = 0
    · subst j0; simpa [Addr.add] using hc
    · simpa [Addr.add, j0] using hc
  have hr := Lib.run_append_grow_zeros (P := Try.prog) w 42 3 ty 48 i0 _ .i64 .i64 Try.underlying42 Try.underlying3 hi0 hz0 (some ⟨g, 0, none⟩) i cap _ hold k hk (by omega) (by omega) (by omega) (by rw [hz2]; omega)
    (growslice_fits (by omega) (by rw [hz2]; omega))
  have hge := grownCap_ge w (i + k) cap 48
  have hcm := grownCap_le_maxLen w (i + k) cap 48 (by unfold maxLen; omega)
  generalize grownCap w (i + k) cap 48 = C at *
  refine ⟨C, ((enc3 (xs.take i)).toArray ++ Builtin.zeroCells (Value.cells (.agg #[.slice none 0 0, .slice none 0 0, .int .i64 0])) k ++ Builtin.zeroCells (Value.cells (.agg #[.slice none 0 0, .slice none 0 0, .int .i64 0])) (C - (i + k))).toList, by rw [Array.toArray_toList]; exact hr, hge, hcm, ?_, ?_⟩
  · have h3 : (Value.cells (.agg #[.slice none 0 0, .slice none 0 0, .int .i64 0])).size = 3 := by kernel_rfl
    simp only [Array.length_toList, Array.size_append, List.size_toArray, size_zeroCells, hxl, h3]
    omega
  · simp only [Array.toList_append, List.append_assoc]
    rw [← hxl]
    exact List.take_left
end Go.Proofs.Ytiglmoggpjgmbaa
