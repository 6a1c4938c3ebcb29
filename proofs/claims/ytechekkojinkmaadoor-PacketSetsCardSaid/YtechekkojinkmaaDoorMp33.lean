/-
  What the listed tables of package sum give, where start and rounds alone are listed; the heap of the door's own run meets the condition.
  What the listed variables give the walks of packet's sets; packets, a name that are handed in; the laid heap meets the condition.
  The frame of a law that lists variables, with the shape of the world handed on to the walk.
-/
import Derived.Test.YtechekkojinkmaaDoorMp32
import Derived.Test.YtechekkojinkmaaDoorTie
import Derived.Test.YtechekkojinkmaaDoorCards
import Derived.SevenTiedAt
import Derived.LaidMore
import Derived.Stop.Joined
import Derived.SizedLaws
import Derived.ChangeOld
import Derived.LaidLaws
import Derived.Stop.LaidErr
import Derived.Lay
import Derived.Lib.LaidTab
import Derived.Test.YtechekkojinkmaaDoorRows
import Derived.Handed
import Derived.JoinedTies
section
namespace Go.Proofs.YtechekkojinkmaaDoor
open Go.ChangeShapes Go.WideShapes Go.ChangeAt Go.RowKit
set_option linter.unusedVariables false

theorem ownD : ownKnob Tryd.prog.godebug = none := by kernel_rfl
theorem laidOutD : laidOutB Tryd.prog = true := by kernel_rfl
theorem cellsU32 : Tryd.prog.cellsOf 42 = 1 := by kernel_rfl
/-- An array of numbers of one cell each, opened: each cell holds its number. -/
theorem array_cells32 {H : Type} {enc : TypeId × Value → H} {w : World} {base fuel n : Nat} {spare : Nat → Bool} {held : Bool} {t : TypeId} {cs : List Value} {zs : List Int} {ps : List MemPlace}
    (ht : Tryd.prog.underlying t = some (.array n 42)) (hd : DataW.trod enc Tryd.prog w base spare held fuel t cs = some (.agg (zs.map fun z => .lit (.int .u32 z)), ps)) :
    zs.length = n ∧ ∀ i (h : i < zs.length), cs[i]? = some (.int .u32 zs[i]) := by
  obtain ⟨xs, m1, _, hx1, hcl, hn3, hel⟩ := DataW.trod_array ht hd
  simp only [Prod.mk.injEq, DataW.agg.injEq] at hx1
  have hl : zs.length = xs.length := by have := congrArg List.length hx1.1; simpa using this
  refine ⟨hl.trans hn3, fun i hi => ?_⟩
  have hix : i < xs.length := by omega
  have h0 := hel i (by omega)
  rw [cellsU32, Nat.mul_one, List.getElem?_eq_getElem hix] at h0
  obtain ⟨k, e1, e2, _⟩ := DataW.trod_int Tryd.underlying42 h0
  have hk : zs[i] = k := by
    have := congrArg (fun l => l[i]?) hx1.1
    simp [hi, hix, e2] at this
    exact this
  rw [hk]
  have : (cs.drop i)[0]? = some (.int .u32 k) := by
    cases h : cs.drop i with
    | nil => rw [h] at e1; simp at e1
    | cons c r => rw [h] at e1; simp at e1; simp [e1]
  simpa using this
theorem gStart : Tryd.prog.globalNamed "geyser/sum.start" = some 0 := by kernel_rfl
theorem tStart : (Tryd.prog.globals[0]?).map (·.type) = some 124 := by kernel_rfl
theorem gRounds : Tryd.prog.globalNamed "geyser/sum.rounds" = some 1 := by kernel_rfl
theorem tRounds : (Tryd.prog.globals[1]?).map (·.type) = some 141 := by kernel_rfl
def startL : List Int := [1779033703, 3144134277, 1013904242, 2773480762, 1359893119, 2600822924, 528734635, 1541459225]
def roundsL : List Int := Sha.kL.map fun k : Nat => (k : Int)
theorem rounds_get : ∀ k, k < 64 → roundsL[k]? = some ((Sha.kN k : Nat) : Int) := by decide +kernel
theorem start_get : ∀ k, k < 8 → startL[k]? = some ((Sha.start8.get k : Nat) : Int) := by decide +kernel
theorem array_get32 {H : Type} {enc : TypeId × Value → H} {w : World} {base fuel n : Nat} {spare : Nat → Bool} {held : Bool} {t : TypeId} {cs : List Value} {zs : List Int} {ps : List MemPlace}
    (ht : Tryd.prog.underlying t = some (.array n 42)) (hd : DataW.trod enc Tryd.prog w base spare held fuel t cs = some (.agg (zs.map fun z => .lit (.int .u32 z)), ps)) (k : Nat) (z : Int) (hz : zs[k]? = some z) :
    cs[k]? = some (.int .u32 z) := by
  have hk : k < zs.length := by
    rcases Nat.lt_or_ge k zs.length with h | h
    · exact h
    · rw [List.getElem?_eq_none h] at hz; cases hz
  have := (array_cells32 ht hd).2 k hk
  rw [List.getElem?_eq_getElem hk] at hz
  rw [← Option.some.inj hz]
  exact this
/-- What the condition gives the walks: the two tables. -/
theorem tabs_of {W : World} (h : laidMetH Tryd.prog [("geyser/sum.start", Rows.laid_geyser_sum_start), ("geyser/sum.rounds", Rows.laid_geyser_sum_rounds)] W) : Tabs W := by
  rw [MakeChecks.laidMetH_plain _ _ _ (by kernel_rfl)] at h
  obtain ⟨ps, ⟨g1, t1, cs1, f1, p1, q1, hg1, ht1, hv1, hd1, ⟨g2, t2, cs2, f2, p2, q2, hg2, ht2, hv2, hd2, _⟩, _⟩, _, _⟩ := h
  obtain rfl := Option.some.inj (gStart.symm.trans hg1)
  obtain rfl := Option.some.inj (tStart.symm.trans ht1)
  obtain rfl := Option.some.inj (gRounds.symm.trans hg2)
  obtain rfl := Option.some.inj (tRounds.symm.trans ht2)
  refine ⟨fun k hk => ?_, ?_⟩
  · rw [World.var?_cell hg2 hv2 k]
    have := array_get32 (zs := roundsL) Tryd.underlying141 hd2 k _ (rounds_get k hk)
    simpa using this
  · have hcs : cs1 = Sha.rowArr 8 (Sha.stV Sha.start8) := by
      have hl := (DataW.trod_array Tryd.underlying124 hd1)
      obtain ⟨xs, m1, _, _, hcl, _, _⟩ := hl
      rw [show Tryd.prog.cellsOf 124 = 8 by kernel_rfl] at hcl
      apply Array.ext_getElem?
      intro i
      by_cases hi : i < 8
      · have := array_get32 (zs := startL) Tryd.underlying124 hd1 i _ (start_get i hi)
        rw [← Array.getElem?_toList, this]
        simp [Sha.rowArr, hi, Sha.stV]
      · have h8 : cs1.size = 8 := by simpa using hcl
        rw [Array.getElem?_eq_none (by omega), Array.getElem?_eq_none (by rw [Sha.rowArr_size]; omega)]
    unfold World.var? at hv1
    rw [hg1] at hv1
    simp only [Option.bind_some] at hv1
    split at hv1
    · rename_i cs t fr heq
      have : cs = cs1 := Option.some.inj hv1
      exact ⟨t, fr, by rw [heq, this, hcs]⟩
    · cases hv1
/-- The door's own heap meets the condition. -/
theorem door_met2 (os : Os) (args : Array Value) : laidMetH Tryd.prog [("geyser/sum.start", Rows.laid_geyser_sum_start), ("geyser/sum.rounds", Rows.laid_geyser_sum_rounds)] ((World.doorLaid Tryd.prog 600 os).forCall (fun _ _ => 0) ⟨#[], args, []⟩).memory :=
  laidMetH_of_parts3 (fuel := 8) (laidMet_of_run' 8 (by kernel_rfl) (by kernel_rfl)) (by kernel_rfl) (by kernel_rfl)
end Go.Proofs.YtechekkojinkmaaDoor
end

section
namespace Go.Proofs.YtechekkojinkmaaDoor
open Go.ChangeShapes Go.WideShapes Go.ChangeAt Go.RowKit Go.Joins
set_option linter.unusedVariables false

theorem own14 : ownKnob Tryd.prog.godebug = none := by kernel_rfl
theorem laidOut14 : laidOutB Tryd.prog = true := by kernel_rfl
def laid14 : List (String × DataW Unit) := [("unicode/utf8.acceptRanges", Rows.laid_unicode_utf8_acceptRanges), ("geyser/sum.start", Rows.laid_geyser_sum_start), ("geyser/sum.rounds", Rows.laid_geyser_sum_rounds), ("unicode/utf8.first", Rows.laid_unicode_utf8_first)]
theorem plain14 : laidMetH Tryd.prog laid14 = laidMet Tryd.prog laid14 := by funext w; exact MakeChecks.laidMetH_plain _ _ _ (by kernel_rfl)
theorem tabs14 {W : World} (h0 : laidMetH Tryd.prog laid14 W) : Tabs W := by
  rw [plain14] at h0
  have h := h0.tail
  obtain ⟨ps, ⟨g1, t1, cs1, f1, p1, q1, hg1, ht1, hv1, hd1, ⟨g2, t2, cs2, f2, p2, q2, hg2, ht2, hv2, hd2, _⟩, _⟩, _, _⟩ := h
  obtain rfl := Option.some.inj (gStart.symm.trans hg1)
  obtain rfl := Option.some.inj (tStart.symm.trans ht1)
  obtain rfl := Option.some.inj (gRounds.symm.trans hg2)
  obtain rfl := Option.some.inj (tRounds.symm.trans ht2)
  refine ⟨fun k hk => ?_, ?_⟩
  · rw [World.var?_cell hg2 hv2 k]
    have := array_get32 (zs := roundsL) Tryd.underlying141 hd2 k _ (rounds_get k hk)
    simpa using this
  · have hcs : cs1 = Sha.rowArr 8 (Sha.stV Sha.start8) := by
      have hl := (DataW.trod_array Tryd.underlying124 hd1)
      obtain ⟨xs, m1, _, _, hcl, _, _⟩ := hl
      rw [show Tryd.prog.cellsOf 124 = 8 by kernel_rfl] at hcl
      apply Array.ext_getElem?
      intro i
      by_cases hi : i < 8
      · have := array_get32 (zs := startL) Tryd.underlying124 hd1 i _ (start_get i hi)
        rw [← Array.getElem?_toList, this]
        simp [Sha.rowArr, hi, Sha.stV]
      · have h8 : cs1.size = 8 := by simpa using hcl
        rw [Array.getElem?_eq_none (by omega), Array.getElem?_eq_none (by rw [Sha.rowArr_size]; omega)]
    unfold World.var? at hv1
    rw [hg1] at hv1
    simp only [Option.bind_some] at hv1
    split at hv1
    · rename_i cs t fr heq
      have : cs = cs1 := Option.some.inj hv1
      exact ⟨t, fr, by rw [heq, this, hcs]⟩
    · cases hv1
theorem shaped14 (os : Os) : (World.laidAll Tryd.prog os laid14).Shaped Tryd.prog := World.shaped_of_ZipB (by kernel_rfl) (by kernel_rfl)
theorem met14 (os : Os) (args : Array Value) : laidMetH Tryd.prog laid14 ((World.laidAll Tryd.prog os laid14).forCall (fun _ _ => 0) ⟨#[], args, []⟩).memory := by
  rw [plain14]; exact laidMet_laidAll _ (by kernel_rfl) (by kernel_rfl)
instance pw_some : Inhabited Pw := ⟨⟨⟨[], 0, 0, 0, 0, 0, zFil, [], 0, []⟩, none, 0, none, 0⟩⟩
section
variable {H : Type} {enc : TypeId × Value → H} {w : World} {base : Nat} {spare : Nat → Bool} {held : Bool}
set_option maxRecDepth 100000 in
/-- Packets that are handed in. -/
theorem pks_in {fuel : Nat} {c : Value} {x : DataW H × List MemPlace} (h : DataW.trod enc Tryd.prog w base spare held fuel 26 [c] = some x) :
    ∃ a F cap, c = .slice a (F : List Pw).length cap ∧ PkSl w a cap F := by
  rcases DataW.trod_slice Tryd.underlying26 h with ⟨hcs, hx⟩ | ⟨a, len, cap, elems, rest, n, _, hcs, hx, hb, hl, hm, hlen, hel, _, _⟩
  · simp only [List.cons.injEq, and_true] at hcs
    exact ⟨none, [], 0, hcs, ⟨by simp, by unfold maxLen; omega, .inl rfl, fun f hf => (by cases hf)⟩⟩
  · simp only [List.cons.injEq, and_true] at hcs
    obtain ⟨f, hf⟩ := Go.Deep.choose_lt (α := Pw) (p := fun i v => PkAt w v.p v.sa v.sc v.da v.dc ∧ ∀ j, j < 51 → w.cell? ((a.add (i * 51)).add j) = some (pwV v j)) (n := len) fun i hi => by
      have h1 := hel i hi
      rw [cells_pk] at h1
      have hie : i < elems.length := by omega
      rw [List.getElem?_eq_getElem hie] at h1
      obtain ⟨cs, hcs1, hcs2⟩ := Option.bind_eq_some_iff.1 h1
      obtain ⟨p, sa, sc, da, dc, rfl, hp⟩ := pk_in hcs2
      obtain ⟨_, _, hc⟩ := World.cells?_some hcs1
      refine ⟨⟨p, sa, sc, da, dc⟩, hp, fun j hj => ?_⟩
      rw [hc j (by omega)]
      have := rowArr_get 51 (pkV p sa sc da dc) j
      rw [if_pos hj] at this
      exact this
    have hll : ((List.range len).map f).length = len := by simp
    refine ⟨some a, (List.range len).map f, cap, by rw [hll]; exact hcs, ⟨by rw [hll]; exact hl, hm, ?_, fun x hx => ?_⟩⟩
    · by_cases h0 : len = 0
      · exact .inl (List.length_eq_zero_iff.1 (by rw [hll]; exact h0))
      · obtain ⟨b, off, spot⟩ := a
        have hc0 := (hf 0 (by omega)).2 0 (by omega)
        have hc0' : w.cell? (⟨b, off, spot⟩ : Addr) = some (pwV (f 0) 0) := by simpa [Addr.add] using hc0
        have hspot : spot = none := World.cell?_spot hc0'
        subst hspot
        have hadd : ∀ r j, ((⟨b, off, none⟩ : Addr).add r).add j = ⟨b, off + r + j, none⟩ := fun r j => by rw [addr_add, addr_add]
        refine .inr ⟨b, off, rfl, World.block_lt_of_cell? w _ hc0', fun i hi k hk => ?_⟩
        have hi2 : i < len := by rw [hll] at hi; exact hi
        have hgi : ((List.range len).map f)[i] = f i := by simp
        rw [hgi, ← hadd]
        exact (hf i hi2).2 k hk
    · obtain ⟨i, hi, rfl⟩ := List.mem_map.1 hx
      exact (hf i (List.mem_range.1 hi)).1
set_option maxRecDepth 100000 in
theorem pks_arg {r : Reach} {b0 : Nat} {v : Value} {d : DataW H} {q : List MemPlace} (hv : Value.okWide Tryd.prog w r b0 26 v) (h : DataW.Trod enc Tryd.prog w base spare held 26 v d q) :
    ∃ a F cap, v = .slice a (F : List Pw).length cap ∧ PkSl w a cap F := by
  obtain ⟨a, n, c, rfl⟩ := okWide_slice Tryd.underlying26 hv
  obtain ⟨fuel, hf⟩ := h
  exact pks_in hf
set_option maxRecDepth 100000 in
/-- A name that is handed in. -/
theorem arr8_arg {r : Reach} {b0 : Nat} {v : Value} {d : DataW H} {q : List MemPlace} (hv : Value.okWide Tryd.prog w r b0 32 v) (h : DataW.Trod enc Tryd.prog w base spare held 32 v d q) :
    ∃ l, v = .agg (rowArr 8 (vOf l)) ∧ l.length = 8 ∧ IsByte l := by
  have hu := Tryd.underlying32
  simp only [Value.okWide, hu] at hv
  obtain ⟨cs, rfl, _, _⟩ := hv
  obtain ⟨fuel, hf⟩ := h
  obtain ⟨l, h8, hb, e⟩ := arr_in hu cells_8 hf
  have e2 : cs = rowArr 8 (vOf l) := Array.ext' e
  exact ⟨l, by rw [e2], h8, hb⟩
end
end Go.Proofs.YtechekkojinkmaaDoor
end

section
namespace Go.Proofs.YtechekkojinkmaaDoor
open Go.ChangeShapes Go.WideShapes

theorem handed_shaped {H : Type} {enc : TypeId × Value → H} {a : Assume} {C : Checked} {os : Os} {f : FuncId} {fn : Func} {s : ChangeSpec} {conds : List PathCond} {apart fresh handsOn again : Bool} {X : World → Array Value → Prop}
    (stays : ∀ (w w' : World) (args : Array Value), w.heap = w'.heap → X w args → X w' args) (knob : ownKnob C.prog.godebug = none) (hos : os.Started) (plain : C.prog.inits.idxOf? f = none) (is : C.prog.funcs[f]? = some fn)
    (fits : ∃ (w : World) (tape : Tape) (i : Input), w.os = os ∧ (w.forCall tape i).Shaped C.prog ∧ i.vars = [] ∧ Input.okWide C.prog (w.forCall tape i) .any w.heap.size f i ∧
      ((s.pre enc C.prog fn conds apart (w.forCall tape i).memory i.args ∧ X (w.forCall tape i).memory i.args) ∧ sizedMet enc C.prog fn (OpenSpec.ofChange s) apart (w.forCall tape i).memory i.args) ∧ a.holds C.prog (lone (Frame.enter C.prog f i.args .normal) [] (w.forCall tape i)))
    (walk : ∀ (W : World) (base : Nat) (args : Array Value) (ds gs : List (DataW H)) (before : List MemPlace), W.ShapedOpen C.prog → X W args →
      (∀ (j : Nat) t v, fn.params[j]? = some t → args[j]? = some v → Value.okWide C.prog W .any base t v) →
      DataW.Whole enc C.prog fn.params.toList s.vars apart W args.toList ds gs before →
      Calls C.prog f args W fun e W' => ∃ v, e = .returned v ∧ s.post enc C.prog fn apart fresh handsOn again W args v W') :
    ReturnsInHanded a C os f .any (fun w args => (s.pre enc C.prog fn conds apart w args ∧ X w args) ∧ sizedMet enc C.prog fn (OpenSpec.ofChange s) apart w args) (s.post enc C.prog fn apart fresh handsOn again) := by
  apply returnsInHanded_of_calls knob hos plain fits
  rintro w tape i - shape - ⟨-, -, -, g, hg, -, -, -, -, vals⟩ ⟨⟨⟨ds, gs, before, whole, -⟩, x⟩, -⟩ -
  obtain rfl : g = fn := Option.some.inj (hg.symm.trans is)
  have W1 : DataW.Whole enc C.prog g.params.toList s.vars apart (w.forCall tape i) i.args.toList ds gs before := DataW.Whole.of_heap (by rfl) whole
  refine (walk _ w.heap.size i.args ds gs before shape (stays (w.forCall tape i).memory _ _ (by rfl) x) vals W1).mono ?_
  rintro e W' ⟨v, rfl, post⟩
  exact ChangeSpec.post_blind post
end Go.Proofs.YtechekkojinkmaaDoor
end
