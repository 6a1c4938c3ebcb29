/-
  PacketJoins, walked.
  What the listed tables of package sum give, where start and rounds alone are listed; the heap of the door's own run meets the condition.
  What the listed variables give the walks of packet's sets; packets, a name that are handed in; the laid heap meets the condition.
  The frame of a law that lists variables, with the shape of the world handed on to the walk.
-/
import Derived.Test.YthpinjmlnongpaaDoorMj29
import Derived.Lib.QuietBelow
import Derived.Test.YthpinjmlnongpaaDoorTie
import Derived.Test.YthpinjmlnongpaaDoorCards
import Derived.SevenTiedAt
import Derived.LaidMore
import Derived.Stop.Joined
import Derived.SizedLaws
import Derived.ChangeOld
import Derived.LaidLaws
import Derived.Stop.LaidErr
import Derived.Lay
import Derived.Lib.LaidTab
import Derived.Test.YthpinjmlnongpaaDoorRows
import Derived.Handed
import Derived.JoinedTies
section
namespace Go.Proofs.YthpinjmlnongpaaDoor
open Go.ChangeShapes Go.WideShapes Go.ChangeAt Go.RowKit Go.Joins
set_option linter.unusedVariables false

/-- What Join answers, in one form. -/
structure JAns (w' : World) (name : List Nat) (A : Array Value) (er : Int) : Prop where
  size : A.size = 3
  one : A.all (·.oneCell') = true
  ans : ((er = 7 ∨ er = 2) ∧ A = zSetA) ∨ (er = 0 ∧ ∃ S fa fc sa sc, A = rowArr 3 (setV S fa fc sa sc) ∧ SetAt w' S fa fc sa sc ∧ FormedP S ∧ nameS S = name)
theorem JoinPost.ans {F : List Pw} {name : List Nat} {w w' : World} {e : Ending} (h : JoinPost F name w e w') : ∃ A er, e = .returned (.tuple #[.agg A, .int .i64 er]) ∧ JAns w' name A er ∧ Below w.heap.size w w' := by
  obtain ⟨hb, M, _, h⟩ := h
  rcases h with ⟨rfl, _⟩ | ⟨m0, f0, S, _, _, _, ⟨rfl, _⟩ | ⟨⟨_, hfm, hnm⟩, fa, fc, sa, sc, rfl, hset, hsn⟩⟩
  · exact ⟨_, _, rfl, ⟨rfl, by kernel_rfl, .inl ⟨.inl rfl, rfl⟩⟩, hb⟩
  · exact ⟨_, _, rfl, ⟨rfl, by kernel_rfl, .inl ⟨.inr rfl, rfl⟩⟩, hb⟩
  · exact ⟨_, _, rfl, ⟨rowArr_size _ _, by kernel_rfl, .inr ⟨rfl, S, fa, fc, sa, sc, rfl, hset, hfm, hnm⟩⟩, hb⟩
set_option maxRecDepth 1000000 in
set_option maxHeartbeats 16000000 in
theorem packetJoins_walk (pa : Option Addr) (pc : Nat) (F : List Pw) (name : List Nat) (w : World) (hs : PkSl w pa pc F) (h8 : name.length = 8) (hb8 : IsByte name) (hm : Mx w) (ht : Tabs w) :
    Calls Tryd.prog 4 #[.slice pa F.length pc, .agg (rowArr 8 (vOf name))] w (TrueAnd w) := by
  have mixed : Tryd.prog.follows .mixedOrders = true := by kernel_rfl
  have hlm := hs.lt
  obtain ⟨NA, hNA⟩ : ∃ NA, NA = rowArr 8 (vOf name) := ⟨_, rfl⟩
  have VN : Hid (rowArr 8 (vOf name) = NA) := hNA.symm
  have HNA := Lib.hid hNA
  rw [← hNA]
  have hb0 : Below w.heap.size w (w.alloc (.cells NA 32)) := (Below.refl _ _).alloc (Nat.le_refl _) _
  have HB1 := Lib.hid hb0
  have HZ1 : Hid ((w.alloc (.cells NA 32)).heap[w.heap.size]? = some (.cells NA 32 (0, 0))) := heap_alloc_last w _
  have HS := Lib.hid (hs.below hb0)
  have HM := Lib.hid (hm.below hb0)
  have HT := Lib.hid (ht.below hb0)
  have H8 := Lib.hid h8
  have HB8 := Lib.hid hb8
  have HAW := Lib.hid (awake14_any _ (ht.below hb0))
  obtain ⟨PQ, hPQ⟩ : ∃ PQ, PQ = TrueAnd w := ⟨_, rfl⟩
  have HT1 : Hid (∀ w', Below w.heap.size w w' → PQ (.returned (.bool true)) w') := by
    show ∀ _, _
    rw [hPQ]; exact fun w' h => ⟨rfl, h⟩
  rw [← hPQ]
  clear hNA hb0 hs hm ht h8 hb8 hPQ
  go_enter Tryd.func4, Tryd.ntmps4
  go_upto_region 1 with fail
  obtain ⟨B, hB⟩ : ∃ B, B = w.heap.size := ⟨_, rfl⟩
  have hwB : w.heap.size ≤ B := by omega
  rw [← hB] at HZ1
  rw [← hB]
  generalize w.alloc (.cells NA 32) = w1 at *
  clear hB
  by_cases q : 30 < F.length
  · have d1 : decide (30 < F.length) = true := decide_eq_true q
    have d2 : decide ((30 : Int) < (F.length : Int)) = true := decide_eq_true (by omega)
    go_upto_region 2 with (go_at_call 8; (with_reducible refine HAW.out.mono ?_); rintro e w2 ⟨rfl, b2⟩; have HB2 := Lib.hid b2; clear b2 HAW)
    have HAW2 := Lib.hid (awake14_any w2 (HT.out.below HB2.out))
    go_wp2_with (go_at_call 8; (with_reducible refine HAW2.out.mono ?_); rintro e w3 ⟨rfl, b3⟩; have HB3 := Lib.hid b3; clear b3 HAW2)
    exact HT1.out _ ((HB1.out.trans (HB2.out.mono HB1.out.size)).trans (HB3.out.mono (HB1.out.trans (HB2.out.mono HB1.out.size)).size))
  have d1 : decide (30 < F.length) = false := decide_eq_false q
  have d2 : decide ((30 : Int) < (F.length : Int)) = false := decide_eq_false (by omega)
  go_upto_region 3 with (go_at_call 8; (with_reducible refine HAW.out.mono ?_); rintro e w2 ⟨rfl, b2⟩; have HB2 := Lib.hid b2; clear b2 HAW)
  have HF0 : Hid (∀ (j : Nat) (h : j < F.length), j < 0 → fewPk F[j].p = true) := fun j _ hj => by omega
  have HB20 : Hid (Below w1.heap.size w1 w2) := HB2.out
  clear HB2 d1 d2
  go_wp2_with fail
  go_loopw [18] (fun i wr => ∃ (k : Nat), k ≤ F.length ∧ i = .int .i64 k ∧ Hid (∀ (j : Nat) (h : j < F.length), j < k → fewPk F[j].p = true) ∧ Hid (Below w1.heap.size w1 wr)) (fun i _ => F.length - (intOf i).toNat)
  case atStart => exact ⟨0, by omega, rfl, HF0, HB20⟩
  case round =>
    obtain ⟨k, hk, rfl, HF, HB⟩ := hrel
    clear HF0 HB20
    have HBW : Hid (Below w.heap.size w wr) := HB1.out.trans (HB.out.mono HB1.out.size)
    by_cases hlt : k < F.length
    · obtain ⟨pb, off, rfl, hbl, hx⟩ := pks_one (HS.out.below HB.out) hlt
      have hpk := HS.out.pks _ (List.getElem_mem hlt)
      obtain ⟨f, hf⟩ : ∃ f, f = F[k] := ⟨_, rfl⟩
      rw [← hf] at hx hpk
      have HFE := Lib.hid hf
      have HXC := Lib.hid hx
      have hfw := few14_any f.p f.sa f.sc f.da f.dc wr (hpk.below HB.out)
      obtain ⟨AQ, hAQ⟩ : ∃ AQ, AQ = rowArr 51 (pwV f) := ⟨_, rfl⟩
      have VA : Hid (rowArr 51 (pwV f) = AQ) := hAQ.symm
      rw [show rowArr 51 (pkV f.p f.sa f.sc f.da f.dc) = AQ from VA.out] at hfw
      obtain ⟨r, hr⟩ : ∃ r, r = fewPk f.p := ⟨_, rfl⟩
      rw [← hr] at hfw
      have HRE := Lib.hid hr
      have HFW := Lib.hid hfw
      clear hx hpk hf hfw hAQ hr
      cases r with
      | false =>
        go_wp2_with (first
          | (refine wpList_load_v (by rfl) 44 _ rfl pb (off + k * 51) 51 _ AQ VA.out rfl _ HXC.out Tryd.underlying44 rfl (by kernel_rfl) ?_)
          | (go_at_call 19; (with_reducible refine HFW.out.mono ?_); rintro e w4 ⟨rfl, b4⟩; have HB4 := Lib.hid b4; clear b4 HFW))
        exact HT1.out _ (HBW.out.trans (HB4.out.mono HBW.out.size))
      | true =>
        have HFN : Hid (∀ (j : Nat) (h : j < F.length), j < k + 1 → fewPk F[j].p = true) := fun j h hj => by
          by_cases e : j = k
          · subst e; rw [← HFE.out]; exact HRE.out.symm
          · exact HF.out j h (by omega)
        go_wp2_with (first
          | (refine wpList_load_v (by rfl) 44 _ rfl pb (off + k * 51) 51 _ AQ VA.out rfl _ HXC.out Tryd.underlying44 rfl (by kernel_rfl) ?_)
          | (go_at_call 19; (with_reducible refine HFW.out.mono ?_); rintro e w4 ⟨rfl, b4⟩; have HB4 := Lib.hid b4; clear b4 HFW))
        have HB5 : Hid (Below w1.heap.size w1 w4) := HB.out.trans (HB4.out.mono HB.out.size)
        go_roundw
        case rel => exact ⟨k + 1, by omega, by go_num, HFN, HB5⟩
        case measure => simp [intOf]; omega
    · obtain rfl : k = F.length := by omega
      have hsm : ∀ f ∈ F, f.p.set = name → f.p.sums.length ≤ 100 := fun f hf _ => by
        obtain ⟨j, hj, rfl⟩ := List.getElem_of_mem hf
        have := HF.out j hj hj
        unfold fewPk at this
        simp only [Bool.and_eq_true, decide_eq_true_eq] at this
        exact this.2.1
      have hJN := join14_any pa pc F name wr (HS.out.below HB.out) H8.out HB8.out (by omega) hsm (HM.out.below HB.out) (HT.out.below HB.out)
      rw [VN.out] at hJN
      have HJN := Lib.hid hJN
      have HZr : Hid (wr.heap[B]? = some (.cells NA 32 (0, 0))) := (HB.out.block B (Array.getElem?_eq_some_iff.1 HZ1.out).1).trans HZ1.out
      have HCN : Hid (∀ j, j < 8 → wr.cell? ⟨B, 0 + j, none⟩ = some (vOf name j)) := fun j hj => by
        rw [cell_of_block HZr.out, Nat.zero_add, HNA.out]
        simp [rowArr, hj]
      clear hJN hsm
      go_upto_region 10 with (first
        | (refine wpList_load_v (by rfl) 32 _ rfl B 0 8 _ NA VN.out rfl _ HCN.out Tryd.underlying32 rfl (by kernel_rfl) ?_)
        | (go_at_call 17; (with_reducible refine HJN.out.mono ?_); rintro e w5 hj; obtain ⟨A, er, rfl, ha, b5⟩ := hj.ans; have HA := Lib.hid ha; have HAs := Lib.hid ha.size; have HA1 := Lib.hid ha.one; have HB5 := Lib.hid b5; clear b5 HJN hj ha; have HALL : Hid (∀ c : Array Value, (w5.alloc (.cells c 25)).heap[w5.heap.size]? = some (.cells c 25 (0, 0))) := (fun c => heap_alloc_last w5 _); have HALB : Hid (∀ c : Array Value, Below w5.heap.size w5 (w5.alloc (.cells c 25))) := (fun c => (Below.refl _ _).alloc (Nat.le_refl _) _))
        | (refine wpList_store_arr rfl 25 _ _ rfl w5.heap.size A rfl rfl 25 _ (HALL.out _) (by rw [HAs.out]; kernel_rfl) (by rw [HAs.out]; rfl) HA1.out ?_; intro w6 HC6 hf6; have HB56 : Hid (Below w5.heap.size w5 w6) := (HALB.out _).trans (hf6.out.below (HALB.out _).size (fun k hk e => by omega)); clear hf6 HALL HALB))
      have HB6 : Hid (Below wr.heap.size wr w6) := HB5.out.trans (HB56.out.mono HB5.out.size)
      have HBW6 : Hid (Below w.heap.size w w6) := HBW.out.trans (HB6.out.mono HBW.out.size)
      have HZ6 : Hid (w6.heap[B]? = some (.cells NA 32 (0, 0))) := (HB6.out.block B (Array.getElem?_eq_some_iff.1 HZr.out).1).trans HZr.out
      obtain ⟨g, hg⟩ : ∃ g, g = w5.heap.size := ⟨_, rfl⟩
      rw [← hg] at HC6
      rw [← hg]
      clear hg HCN
      rcases HA.out.ans with ⟨her, hA⟩ | ⟨rfl, S, fa, fc, sa, sc, hA, hset, hfm, hnm⟩
      · have c1 : w6.cell? ⟨g, 1, none⟩ = some (.slice none 0 0) := by rw [cell_of_block HC6.out, hA]; rfl
        clear hA
        rcases her with rfl | rfl
        · go_wp2_with fail
          exact HT1.out _ HBW6.out
        · go_wp2_with fail
          exact HT1.out _ HBW6.out
      · have HST := Lib.hid (hset.below HB56.out)
        have VA : Hid (rowArr 3 (setV S fa fc sa sc) = A) := hA.symm
        have HC3 : Hid (∀ j, j < 3 → w6.cell? ⟨g, 0 + j, none⟩ = some (setV S fa fc sa sc j)) := fun j hj => by
          rw [cell_of_block HC6.out, Nat.zero_add, hA]
          simp [rowArr, hj]
        have HC8 : Hid (∀ j, j < 8 → w6.cell? ⟨B, 0 + j, none⟩ = some (vOf name j)) := fun j hj => by
          rw [cell_of_block HZ6.out, Nat.zero_add, HNA.out]
          simp [rowArr, hj]
        have be : ∀ w, (binOp .eql 32 (.agg NA) (.agg NA)).run Tryd.prog w = .ok (.bool true) w := fun w => by
          rw [run_eql_struct, HNA.out, eq_arr Tryd.underlying32 HB8.out HB8.out H8.out H8.out 9998 w]
          simp [Result.andThen]
        have CN1 := fun d os => Calls.regrown_of (v := .bool true) ((refFormed_any S fa fc sa sc (Go.Sort.grow (redrawn w6 d) os) (HST.out.below (below_regrown w6 d os))).mono fun e w' ⟨⟨r, he, hr⟩, hb⟩ => ⟨by rw [he, hr.2 hfm], hb⟩)
        have CN2 := fun d os => Calls.regrown_of (v := .agg NA) ((refName14_any S fa fc sa sc (Go.Sort.grow (redrawn w6 d) os) (HST.out.below (below_regrown w6 d os)) hfm).mono fun e w' ⟨he, hb⟩ => ⟨by rw [he, hnm, VN.out], hb⟩)
        rw [VA.out] at CN1 CN2
        clear hA hset hfm hnm
        go_upto_region 12 with fail
        refine wp_region_quiet_below mixed (by kernel_rfl) ?_
        repeat (first
          | (refine wpQuiet_load_v (by rfl) 25 _ rfl g 0 3 _ A VA.out rfl _ (fun w hw j hj => by obtain ⟨⟨d, os⟩, rfl⟩ := hw; exact ((below_regrown w6 d os).cell (p := ⟨g, 0 + j, none⟩) (Array.getElem?_eq_some_iff.1 HC6.out).1).trans (HC3.out j hj)) Tryd.underlying25 rfl (by kernel_rfl) ?_)
          | (refine wpQuiet_load_v (by rfl) 32 _ rfl B 0 8 _ NA VN.out rfl _ (fun w hw j hj => by obtain ⟨⟨d, os⟩, rfl⟩ := hw; exact ((below_regrown w6 d os).cell (p := ⟨B, 0 + j, none⟩) (Array.getElem?_eq_some_iff.1 HZ6.out).1).trans (HC8.out j hj)) Tryd.underlying32 rfl (by kernel_rfl) ?_)
          | go_big_quiet_step (first | exact CN1 _ _ | exact CN2 _ _) | quiet_step (first | exact CN1 _ _ | exact CN2 _ _))
        refine wpQuiet_nil ?_
        intro _ hw'
        obtain ⟨⟨dq, osq⟩, hw''⟩ := hw'
        subst hw''
        have HBE : Hid (Below w.heap.size w (Go.Sort.grow (redrawn w6 dq) osq)) := HBW6.out.trans ((below_regrown w6 dq osq).mono HBW6.out.size)
        clear CN1 CN2 be
        generalize Go.Sort.grow (redrawn w6 dq) osq = w7 at *
        go_wp2_with fail
        exact HT1.out _ HBE.out
end Go.Proofs.YthpinjmlnongpaaDoor
end

section
namespace Go.Proofs.YthpinjmlnongpaaDoor
open Go.ChangeShapes Go.WideShapes Go.ChangeAt Go.RowKit
set_option linter.unusedVariables false

theorem ownD : ownKnob Tryd.prog.godebug = none := by kernel_rfl
theorem laidOutD : laidOutB Tryd.prog = true := by kernel_rfl
theorem cellsU32 : Tryd.prog.cellsOf 42 = 1 := by kernel_rfl
/-- An array of numbers of one cell each, opened: each cell holds its number. -/
theorem array_cells32 {H : Type} {enc : TypeId × Value → H} {w : World} {base fuel n : Nat} {spare : Nat → Bool} {held : Bool} {t : TypeId} {cs : List Value} {zs : List Int} {ps : List MemPlace}
    (ht : Tryd.prog.underlying t = some (.array n 42)) (hd : DataW.trod enc Tryd.prog w base spare held fuel t cs = some (.agg (zs.map fun z => .lit (.int .u32 z)), ps)) :
    zs.length = n ∧ ∀ i (h : i < zs.length), cs[i]? = some (.int .u32 zs[i]) := by
  obtain ⟨xs, m1, _, hx1, hcl, hn3, hel⟩ := DataW.trod_array ht hd
  simp only [Prod.mk.injEq, DataW.agg.injEq] at hx1
  have hl : zs.length = xs.length := by have := congrArg List.length hx1.1; simpa using this
  refine ⟨hl.trans hn3, fun i hi => ?_⟩
  have hix : i < xs.length := by omega
  have h0 := hel i (by omega)
  rw [cellsU32, Nat.mul_one, List.getElem?_eq_getElem hix] at h0
  obtain ⟨k, e1, e2, _⟩ := DataW.trod_int Tryd.underlying42 h0
  have hk : zs[i] = k := by
    have := congrArg (fun l => l[i]?) hx1.1
    simp [hi, hix, e2] at this
    exact this
  rw [hk]
  have : (cs.drop i)[0]? = some (.int .u32 k) := by
    cases h : cs.drop i with
    | nil => rw [h] at e1; simp at e1
    | cons c r => rw [h] at e1; simp at e1; simp [e1]
  simpa using this
theorem gStart : Tryd.prog.globalNamed "geyser/sum.start" = some 0 := by kernel_rfl
theorem tStart : (Tryd.prog.globals[0]?).map (·.type) = some 130 := by kernel_rfl
theorem gRounds : Tryd.prog.globalNamed "geyser/sum.rounds" = some 1 := by kernel_rfl
theorem tRounds : (Tryd.prog.globals[1]?).map (·.type) = some 143 := by kernel_rfl
def startL : List Int := [1779033703, 3144134277, 1013904242, 2773480762, 1359893119, 2600822924, 528734635, 1541459225]
def roundsL : List Int := Sha.kL.map fun k : Nat => (k : Int)
theorem rounds_get : ∀ k, k < 64 → roundsL[k]? = some ((Sha.kN k : Nat) : Int) := by decide +kernel
theorem start_get : ∀ k, k < 8 → startL[k]? = some ((Sha.start8.get k : Nat) : Int) := by decide +kernel
theorem array_get32 {H : Type} {enc : TypeId × Value → H} {w : World} {base fuel n : Nat} {spare : Nat → Bool} {held : Bool} {t : TypeId} {cs : List Value} {zs : List Int} {ps : List MemPlace}
    (ht : Tryd.prog.underlying t = some (.array n 42)) (hd : DataW.trod enc Tryd.prog w base spare held fuel t cs = some (.agg (zs.map fun z => .lit (.int .u32 z)), ps)) (k : Nat) (z : Int) (hz : zs[k]? = some z) :
    cs[k]? = some (.int .u32 z) := by
  have hk : k < zs.length := by
    rcases Nat.lt_or_ge k zs.length with h | h
    · exact h
    · rw [List.getElem?_eq_none h] at hz; cases hz
  have := (array_cells32 ht hd).2 k hk
  rw [List.getElem?_eq_getElem hk] at hz
  rw [← Option.some.inj hz]
  exact this
/-- What the condition gives the walks: the two tables. -/
theorem tabs_of {W : World} (h : laidMetH Tryd.prog [("geyser/sum.start", Rows.laid_geyser_sum_start), ("geyser/sum.rounds", Rows.laid_geyser_sum_rounds)] W) : Tabs W := by
  rw [MakeChecks.laidMetH_plain _ _ _ (by kernel_rfl)] at h
  obtain ⟨ps, ⟨g1, t1, cs1, f1, p1, q1, hg1, ht1, hv1, hd1, ⟨g2, t2, cs2, f2, p2, q2, hg2, ht2, hv2, hd2, _⟩, _⟩, _, _⟩ := h
  obtain rfl := Option.some.inj (gStart.symm.trans hg1)
  obtain rfl := Option.some.inj (tStart.symm.trans ht1)
  obtain rfl := Option.some.inj (gRounds.symm.trans hg2)
  obtain rfl := Option.some.inj (tRounds.symm.trans ht2)
  refine ⟨fun k hk => ?_, ?_⟩
  · rw [World.var?_cell hg2 hv2 k]
    have := array_get32 (zs := roundsL) Tryd.underlying143 hd2 k _ (rounds_get k hk)
    simpa using this
  · have hcs : cs1 = Sha.rowArr 8 (Sha.stV Sha.start8) := by
      have hl := (DataW.trod_array Tryd.underlying130 hd1)
      obtain ⟨xs, m1, _, _, hcl, _, _⟩ := hl
      rw [show Tryd.prog.cellsOf 130 = 8 by kernel_rfl] at hcl
      apply Array.ext_getElem?
      intro i
      by_cases hi : i < 8
      · have := array_get32 (zs := startL) Tryd.underlying130 hd1 i _ (start_get i hi)
        rw [← Array.getElem?_toList, this]
        simp [Sha.rowArr, hi, Sha.stV]
      · have h8 : cs1.size = 8 := by simpa using hcl
        rw [Array.getElem?_eq_none (by omega), Array.getElem?_eq_none (by rw [Sha.rowArr_size]; omega)]
    unfold World.var? at hv1
    rw [hg1] at hv1
    simp only [Option.bind_some] at hv1
    split at hv1
    · rename_i cs t fr heq
      have : cs = cs1 := Option.some.inj hv1
      exact ⟨t, fr, by rw [heq, this, hcs]⟩
    · cases hv1
/-- The door's own heap meets the condition. -/
theorem door_met2 (os : Os) (args : Array Value) : laidMetH Tryd.prog [("geyser/sum.start", Rows.laid_geyser_sum_start), ("geyser/sum.rounds", Rows.laid_geyser_sum_rounds)] ((World.doorLaid Tryd.prog 600 os).forCall (fun _ _ => 0) ⟨#[], args, []⟩).memory :=
  laidMetH_of_parts3 (fuel := 8) (laidMet_of_run' 8 (by kernel_rfl) (by kernel_rfl)) (by kernel_rfl) (by kernel_rfl)
end Go.Proofs.YthpinjmlnongpaaDoor
end

section
namespace Go.Proofs.YthpinjmlnongpaaDoor
open Go.ChangeShapes Go.WideShapes Go.ChangeAt Go.RowKit Go.Joins
set_option linter.unusedVariables false

theorem own14 : ownKnob Tryd.prog.godebug = none := by kernel_rfl
theorem laidOut14 : laidOutB Tryd.prog = true := by kernel_rfl
def laid14 : List (String × DataW Unit) := [("unicode/utf8.acceptRanges", Rows.laid_unicode_utf8_acceptRanges), ("geyser/sum.start", Rows.laid_geyser_sum_start), ("geyser/sum.rounds", Rows.laid_geyser_sum_rounds), ("unicode/utf8.first", Rows.laid_unicode_utf8_first)]
theorem plain14 : laidMetH Tryd.prog laid14 = laidMet Tryd.prog laid14 := by funext w; exact MakeChecks.laidMetH_plain _ _ _ (by kernel_rfl)
theorem tabs14 {W : World} (h0 : laidMetH Tryd.prog laid14 W) : Tabs W := by
  rw [plain14] at h0
  have h := h0.tail
  obtain ⟨ps, ⟨g1, t1, cs1, f1, p1, q1, hg1, ht1, hv1, hd1, ⟨g2, t2, cs2, f2, p2, q2, hg2, ht2, hv2, hd2, _⟩, _⟩, _, _⟩ := h
  obtain rfl := Option.some.inj (gStart.symm.trans hg1)
  obtain rfl := Option.some.inj (tStart.symm.trans ht1)
  obtain rfl := Option.some.inj (gRounds.symm.trans hg2)
  obtain rfl := Option.some.inj (tRounds.symm.trans ht2)
  refine ⟨fun k hk => ?_, ?_⟩
  · rw [World.var?_cell hg2 hv2 k]
    have := array_get32 (zs := roundsL) Tryd.underlying143 hd2 k _ (rounds_get k hk)
    simpa using this
  · have hcs : cs1 = Sha.rowArr 8 (Sha.stV Sha.start8) := by
      have hl := (DataW.trod_array Tryd.underlying130 hd1)
      obtain ⟨xs, m1, _, _, hcl, _, _⟩ := hl
      rw [show Tryd.prog.cellsOf 130 = 8 by kernel_rfl] at hcl
      apply Array.ext_getElem?
      intro i
      by_cases hi : i < 8
      · have := array_get32 (zs := startL) Tryd.underlying130 hd1 i _ (start_get i hi)
        rw [← Array.getElem?_toList, this]
        simp [Sha.rowArr, hi, Sha.stV]
      · have h8 : cs1.size = 8 := by simpa using hcl
        rw [Array.getElem?_eq_none (by omega), Array.getElem?_eq_none (by rw [Sha.rowArr_size]; omega)]
    unfold World.var? at hv1
    rw [hg1] at hv1
    simp only [Option.bind_some] at hv1
    split at hv1
    · rename_i cs t fr heq
      have : cs = cs1 := Option.some.inj hv1
      exact ⟨t, fr, by rw [heq, this, hcs]⟩
    · cases hv1
theorem shaped14 (os : Os) : (World.laidAll Tryd.prog os laid14).Shaped Tryd.prog := World.shaped_of_ZipB (by kernel_rfl) (by kernel_rfl)
theorem met14 (os : Os) (args : Array Value) : laidMetH Tryd.prog laid14 ((World.laidAll Tryd.prog os laid14).forCall (fun _ _ => 0) ⟨#[], args, []⟩).memory := by
  rw [plain14]; exact laidMet_laidAll _ (by kernel_rfl) (by kernel_rfl)
instance pw_some : Inhabited Pw := ⟨⟨⟨[], 0, 0, 0, 0, 0, zFil, [], 0, []⟩, none, 0, none, 0⟩⟩
section
variable {H : Type} {enc : TypeId × Value → H} {w : World} {base : Nat} {spare : Nat → Bool} {held : Bool}
set_option maxRecDepth 100000 in
/-- Packets that are handed in. -/
theorem pks_in {fuel : Nat} {c : Value} {x : DataW H × List MemPlace} (h : DataW.trod enc Tryd.prog w base spare held fuel 26 [c] = some x) :
    ∃ a F cap, c = .slice a (F : List Pw).length cap ∧ PkSl w a cap F := by
  rcases DataW.trod_slice Tryd.underlying26 h with ⟨hcs, hx⟩ | ⟨a, len, cap, elems, rest, n, _, hcs, hx, hb, hl, hm, hlen, hel, _, _⟩
  · simp only [List.cons.injEq, and_true] at hcs
    exact ⟨none, [], 0, hcs, ⟨by simp, by unfold maxLen; omega, .inl rfl, fun f hf => (by cases hf)⟩⟩
  · simp only [List.cons.injEq, and_true] at hcs
    obtain ⟨f, hf⟩ := Go.Deep.choose_lt (α := Pw) (p := fun i v => PkAt w v.p v.sa v.sc v.da v.dc ∧ ∀ j, j < 51 → w.cell? ((a.add (i * 51)).add j) = some (pwV v j)) (n := len) fun i hi => by
      have h1 := hel i hi
      rw [cells_pk] at h1
      have hie : i < elems.length := by omega
      rw [List.getElem?_eq_getElem hie] at h1
      obtain ⟨cs, hcs1, hcs2⟩ := Option.bind_eq_some_iff.1 h1
      obtain ⟨p, sa, sc, da, dc, rfl, hp⟩ := pk_in hcs2
      obtain ⟨_, _, hc⟩ := World.cells?_some hcs1
      refine ⟨⟨p, sa, sc, da, dc⟩, hp, fun j hj => ?_⟩
      rw [hc j (by omega)]
      have := rowArr_get 51 (pkV p sa sc da dc) j
      rw [if_pos hj] at this
      exact this
    have hll : ((List.range len).map f).length = len := by simp
    refine ⟨some a, (List.range len).map f, cap, by rw [hll]; exact hcs, ⟨by rw [hll]; exact hl, hm, ?_, fun x hx => ?_⟩⟩
    · by_cases h0 : len = 0
      · exact .inl (List.length_eq_zero_iff.1 (by rw [hll]; exact h0))
      · obtain ⟨b, off, spot⟩ := a
        have hc0 := (hf 0 (by omega)).2 0 (by omega)
        have hc0' : w.cell? (⟨b, off, spot⟩ : Addr) = some (pwV (f 0) 0) := by simpa [Addr.add] using hc0
        have hspot : spot = none := World.cell?_spot hc0'
        subst hspot
        have hadd : ∀ r j, ((⟨b, off, none⟩ : Addr).add r).add j = ⟨b, off + r + j, none⟩ := fun r j => by rw [addr_add, addr_add]
        refine .inr ⟨b, off, rfl, World.block_lt_of_cell? w _ hc0', fun i hi k hk => ?_⟩
        have hi2 : i < len := by rw [hll] at hi; exact hi
        have hgi : ((List.range len).map f)[i] = f i := by simp
        rw [hgi, ← hadd]
        exact (hf i hi2).2 k hk
    · obtain ⟨i, hi, rfl⟩ := List.mem_map.1 hx
      exact (hf i (List.mem_range.1 hi)).1
set_option maxRecDepth 100000 in
theorem pks_arg {r : Reach} {b0 : Nat} {v : Value} {d : DataW H} {q : List MemPlace} (hv : Value.okWide Tryd.prog w r b0 26 v) (h : DataW.Trod enc Tryd.prog w base spare held 26 v d q) :
    ∃ a F cap, v = .slice a (F : List Pw).length cap ∧ PkSl w a cap F := by
  obtain ⟨a, n, c, rfl⟩ := okWide_slice Tryd.underlying26 hv
  obtain ⟨fuel, hf⟩ := h
  exact pks_in hf
set_option maxRecDepth 100000 in
/-- A name that is handed in. -/
theorem arr8_arg {r : Reach} {b0 : Nat} {v : Value} {d : DataW H} {q : List MemPlace} (hv : Value.okWide Tryd.prog w r b0 32 v) (h : DataW.Trod enc Tryd.prog w base spare held 32 v d q) :
    ∃ l, v = .agg (rowArr 8 (vOf l)) ∧ l.length = 8 ∧ IsByte l := by
  have hu := Tryd.underlying32
  simp only [Value.okWide, hu] at hv
  obtain ⟨cs, rfl, _, _⟩ := hv
  obtain ⟨fuel, hf⟩ := h
  obtain ⟨l, h8, hb, e⟩ := arr_in hu cells_8 hf
  have e2 : cs = rowArr 8 (vOf l) := Array.ext' e
  exact ⟨l, by rw [e2], h8, hb⟩
end
end Go.Proofs.YthpinjmlnongpaaDoor
end

section
namespace Go.Proofs.YthpinjmlnongpaaDoor
open Go.ChangeShapes Go.WideShapes

theorem handed_shaped {H : Type} {enc : TypeId × Value → H} {a : Assume} {C : Checked} {os : Os} {f : FuncId} {fn : Func} {s : ChangeSpec} {conds : List PathCond} {apart fresh handsOn again : Bool} {X : World → Array Value → Prop}
    (stays : ∀ (w w' : World) (args : Array Value), w.heap = w'.heap → X w args → X w' args) (knob : ownKnob C.prog.godebug = none) (hos : os.Started) (plain : C.prog.inits.idxOf? f = none) (is : C.prog.funcs[f]? = some fn)
    (fits : ∃ (w : World) (tape : Tape) (i : Input), w.os = os ∧ (w.forCall tape i).Shaped C.prog ∧ i.vars = [] ∧ Input.okWide C.prog (w.forCall tape i) .any w.heap.size f i ∧
      ((s.pre enc C.prog fn conds apart (w.forCall tape i).memory i.args ∧ X (w.forCall tape i).memory i.args) ∧ sizedMet enc C.prog fn (OpenSpec.ofChange s) apart (w.forCall tape i).memory i.args) ∧ a.holds C.prog (lone (Frame.enter C.prog f i.args .normal) [] (w.forCall tape i)))
    (walk : ∀ (W : World) (base : Nat) (args : Array Value) (ds gs : List (DataW H)) (before : List MemPlace), W.ShapedOpen C.prog → X W args →
      (∀ (j : Nat) t v, fn.params[j]? = some t → args[j]? = some v → Value.okWide C.prog W .any base t v) →
      DataW.Whole enc C.prog fn.params.toList s.vars apart W args.toList ds gs before →
      Calls C.prog f args W fun e W' => ∃ v, e = .returned v ∧ s.post enc C.prog fn apart fresh handsOn again W args v W') :
    ReturnsInHanded a C os f .any (fun w args => (s.pre enc C.prog fn conds apart w args ∧ X w args) ∧ sizedMet enc C.prog fn (OpenSpec.ofChange s) apart w args) (s.post enc C.prog fn apart fresh handsOn again) := by
  apply returnsInHanded_of_calls knob hos plain fits
  rintro w tape i - shape - ⟨-, -, -, g, hg, -, -, -, -, vals⟩ ⟨⟨⟨ds, gs, before, whole, -⟩, x⟩, -⟩ -
  obtain rfl : g = fn := Option.some.inj (hg.symm.trans is)
  have W1 : DataW.Whole enc C.prog g.params.toList s.vars apart (w.forCall tape i) i.args.toList ds gs before := DataW.Whole.of_heap (by rfl) whole
  refine (walk _ w.heap.size i.args ds gs before shape (stays (w.forCall tape i).memory _ _ (by rfl) x) vals W1).mono ?_
  rintro e W' ⟨v, rfl, post⟩
  exact ChangeSpec.post_blind post
end Go.Proofs.YthpinjmlnongpaaDoor
end
