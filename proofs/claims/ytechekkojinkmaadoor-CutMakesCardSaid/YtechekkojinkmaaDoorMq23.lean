/-
  CutMakes, walked.
  What the listed tables of package sum give, where start and rounds alone are listed; the heap of the door's own run meets the condition.
  What the listed variables give the walks of cut's law; files that are handed in; the laid heap meets the condition.
  The frame of a law that lists variables, with the shape of the world, and how large what came in can be, handed on to the walk.
-/
import Derived.Test.YtechekkojinkmaaDoorMq22
import Derived.Test.YtechekkojinkmaaDoorTie
import Derived.Test.YtechekkojinkmaaDoorCards
import Derived.SevenTiedAt
import Derived.LaidMore
import Derived.Stop.Joined
import Derived.SizedLaws
import Derived.ChangeOld
import Derived.LaidLaws
import Derived.Stop.LaidErr
import Derived.Lay
import Derived.Lib.LaidTab
import Derived.Test.YtechekkojinkmaaDoorRows
import Derived.Handed
import Derived.JoinedTies
section
namespace Go.Proofs.YtechekkojinkmaaDoor
open Go.ChangeShapes Go.WideShapes Go.ChangeAt Go.RowKit Go.Joins
set_option linter.unusedVariables false

theorem strOf_app (l m : List Nat) : strOf l ++ strOf m = strOf (l ++ m) := by
  have h : ∀ x y : ByteArray, x.data.toList = y.data.toList → x = y := fun x y h => by
    cases x; cases y
    congr 1
    exact Array.ext' h
  apply h
  rw [ByteArray.data_append, Array.toList_append, strOf_data, strOf_data, strOf_data, List.map_append]
theorem src_one {w : World} {a : Option Addr} {c : Nat} {R : List (List Nat)} (h : SrcAt w a c R) {i : Nat} (hi : i < R.length) : ∃ g p q, a = some ⟨g, 0, none⟩ ∧ g < w.heap.size ∧ w.cell? ⟨g, i, none⟩ = some (.slice p R[i].length q) ∧ Sl w p q R[i] := by
  rcases h.here with rfl | ⟨g, e, hg, hc⟩
  · simp at hi
  · obtain ⟨p, q, h1, h2⟩ := hc i hi
    exact ⟨g, p, q, e, hg, h1, h2⟩
theorem setArr_one16 (S : St) (fa : Option Addr) (fc : Nat) (sa : Option Addr) (sc : Nat) : (rowArr 3 (setV S fa fc sa sc)).all (·.oneCell') = true := by
  simp [rowArr, List.range_succ, setV, Value.oneCell']
set_option maxRecDepth 1000000 in
set_option maxHeartbeats 32000000 in
theorem cutMakes_walk (a : Option Addr) (cap : Nat) (L : List Inp) (s : Int) (w : World) (hs : Inps w a cap L) (hz : i64R s) (hm : Mx w) (ht : Tabs w) (hF : Fours w) :
    Calls Tryd.prog 4 #[.slice a L.length cap, .int .i64 s] w (TrueAnd w) := by
  have mixed : Tryd.prog.follows .mixedOrders = true := by kernel_rfl
  obtain ⟨PQ, hPQ⟩ : ∃ PQ, PQ = TrueAnd w := ⟨_, rfl⟩
  have HT1 : Hid (∀ w', Below w.heap.size w w' → PQ (.returned (.bool true)) w') := by
    show ∀ _, _
    rw [hPQ]; exact fun w' h => ⟨rfl, h⟩
  rw [← hPQ]
  have HAW : Hid (∀ w, Calls Tryd.prog 16 #[] w fun e w' => e = .returned (.bool true) ∧ w = w') := fun w => (awake16_any w).mono fun e w' ⟨h1, h2⟩ => ⟨h1, h2.symm⟩
  have HFC := Lib.hid (few16_any a cap L w hs)
  have HS := Lib.hid hs
  have HM := Lib.hid hm
  have HT := Lib.hid ht
  have HFO := Lib.hid hF
  have hlm := hs.lt
  have HZ := Lib.hid hz
  obtain ⟨hz1, hz2⟩ := hz
  clear hPQ hs hm ht hF
  by_cases hf : FewI L
  case neg =>
    have HFW : Hid (Calls Tryd.prog 17 #[.slice a L.length cap] w fun e w' => e = .returned (.bool false) ∧ Below w.heap.size w w') := HFC.out.mono fun e w' ⟨r, ⟨he, hb⟩, hr⟩ => ⟨by rw [he, Bool.eq_false_iff.2 fun h => hf (hr.1 h)], hb⟩
    clear HFC hf
    go_enter Tryd.func4, Tryd.ntmps4
    go_wp2_with (first
      | (go_at_call 16; (with_reducible refine (HAW.out _).mono ?_); rintro e w' ⟨rfl, rfl⟩)
      | (go_at_call 17; (with_reducible refine HFW.out.mono ?_); rintro e w1 ⟨rfl, b1⟩; have HB1 := Lib.hid b1; clear b1 HFW))
    exact HT1.out _ HB1.out
  have HFW : Hid (Calls Tryd.prog 17 #[.slice a L.length cap] w fun e w' => e = .returned (.bool true) ∧ Below w.heap.size w w') := HFC.out.mono fun e w' ⟨r, ⟨he, hb⟩, hr⟩ => ⟨by rw [he, hr.2 hf], hb⟩
  have HFI := Lib.hid hf
  have hll := hf.len
  clear HFC hf
  go_enter Tryd.func4, Tryd.ntmps4
  go_upto_region 3 with (first
      | (go_at_call 16; (with_reducible refine (HAW.out _).mono ?_); rintro e w' ⟨rfl, rfl⟩)
      | (go_at_call 17; (with_reducible refine HFW.out.mono ?_); rintro e w1 ⟨rfl, b1⟩; have HB1 := Lib.hid b1; clear b1 HFW))
  have hmk := make_any a cap L s w1 (HS.out.below HB1.out) HFI.out HZ.out (HM.out.below HB1.out) (HT.out.below HB1.out) (HFO.out.below HB1.out)
  by_cases hfit : CodeIs L s 0
  case neg =>
    obtain ⟨ZA, hZA⟩ : ∃ ZA, ZA = zSetA := ⟨_, rfl⟩
    have HMK : Hid (Calls Tryd.prog 18 #[.slice a L.length cap, .int .i64 s] w1 fun e w' => Below w1.heap.size w1 w' ∧ ∃ c, CodeIs L s c ∧ c ≠ 0 ∧ e = .returned (.tuple #[.agg ZA, .slice none 0 0, .int .i64 c])) := hmk.mono fun e w' ⟨hb, c, hc, h⟩ => by
      rcases h with ⟨h0, he⟩ | ⟨h0, _⟩
      · exact ⟨hb, c, hc, h0, by rw [he, hZA]⟩
      · exact absurd (h0 ▸ hc) hfit
    have HZE := Lib.hid hZA
    have HZs : Hid (ZA.size = 3) := by show _ = _; rw [hZA]; rfl
    have HZ1 : Hid (ZA.all (·.oneCell') = true) := by show _ = _; rw [hZA]; kernel_rfl
    clear hmk hfit hZA
    go_upto_region 4 with (first
      | (go_at_call 18; (with_reducible refine HMK.out.mono ?_); rintro e w2 ⟨b2, c, hc, hc0, rfl⟩; have HB2 := Lib.hid b2; have HC := Lib.hid hc; have HC0 := Lib.hid hc0; clear b2 hc hc0 HMK; have HALL : Hid (∀ c : Array Value, (w2.alloc (.cells c 25)).heap[w2.heap.size]? = some (.cells c 25 (0, 0))) := (fun c => heap_alloc_last w2 _); have HALB : Hid (∀ c : Array Value, Below w2.heap.size w2 (w2.alloc (.cells c 25))) := (fun c => (Below.refl _ _).alloc (Nat.le_refl _) _))
      | (refine wpList_store_arr rfl 25 _ _ rfl w2.heap.size ZA rfl rfl 25 _ (HALL.out _) (by rw [HZs.out]; kernel_rfl) (by rw [HZs.out]; rfl) HZ1.out ?_; intro w3 HC3 hf3; have HB23 : Hid (Below w2.heap.size w2 w3) := (HALB.out _).trans (hf3.out.below (HALB.out _).size (fun k hk e => by omega)); clear hf3 HALL HALB))
    obtain ⟨g5, hg5⟩ : ∃ g5, g5 = w2.heap.size := ⟨_, rfl⟩
    rw [← hg5] at HC3
    rw [← hg5]
    have HB3 : Hid (Below w.heap.size w w3) := (HB1.out.trans (HB2.out.mono HB1.out.size)).trans (HB23.out.mono (Nat.le_trans HB1.out.size HB2.out.size))
    have HWR := Lib.hid (wrong_any a cap L s w3 (HS.out.below HB3.out) HFI.out HZ.out)
    have hl5 : g5 < w3.heap.size := (Array.getElem?_eq_some_iff.1 HC3.out).1
    clear hg5 HB23
    go_upto_region 5 with (go_at_call 19; (with_reducible refine HWR.out.mono ?_); rintro e w4 ⟨⟨c2, rfl, hc2⟩, b4⟩; obtain rfl := hc2.one HC.out; have HB4 := Lib.hid b4; clear b4 hc2 HWR)
    have k1 : w4.cell? ⟨g5, 1, none⟩ = some (.slice none 0 0) := by rw [cell_of_block ((HB4.out.block g5 hl5).trans HC3.out), HZE.out]; rfl
    have d1 : (c2 == 0) = false := beq_false_of_ne HC0.out
    have d2 : (c2 != 0) = true := by simp [HC0.out]
    have d3 : ¬ c2 = 0 := HC0.out
    go_wp2_with fail
    exact HT1.out _ (HB3.out.trans (HB4.out.mono HB3.out.size))
  have hft := hfit.fit
  obtain ⟨S, rfl⟩ : ∃ S : Nat, s = (S : Int) := ⟨s.toNat, by have := hft.s1; omega⟩
  have HMK : Hid (Calls Tryd.prog 18 #[.slice a L.length cap, .int .i64 (S : Int)] w1 fun e w' => Below w1.heap.size w1 w' ∧ ∃ fa fc sa sc ra rc, e = .returned (.tuple #[.agg (rowArr 3 (setV (setOf L (S : Int)) fa fc sa sc)), .slice ra (srcsTo L (S : Int) L.length).length rc, .int .i64 0]) ∧ SetAt w' (setOf L (S : Int)) fa fc sa sc ∧ SrcAt w' ra rc (srcsTo L (S : Int) L.length)) := hmk.mono fun e w' ⟨hb, c, hc, h⟩ => by
    rcases h with ⟨h0, _⟩ | ⟨_, h⟩
    · exact absurd (hc.one hfit) h0
    · exact ⟨hb, h⟩
  have HFT := Lib.hid hft
  have HCF := Lib.hid hfit
  clear hmk hft hfit
  go_upto_region 4 with (first
      | (go_at_call 18; (with_reducible refine HMK.out.mono ?_); rintro e w2 ⟨b2, fa, fc, sa, sc, ra, rc, rfl, hset, hsrc⟩; have HB2 := Lib.hid b2; have HSET := Lib.hid hset; have HSRC := Lib.hid hsrc; obtain ⟨SV, hSV⟩ : ∃ SV, SV = rowArr 3 (setV (setOf L (S : Int)) fa fc sa sc) := ⟨_, rfl⟩; have VS : Hid (rowArr 3 (setV (setOf L (S : Int)) fa fc sa sc) = SV) := hSV.symm; have HSs : Hid (SV.size = 3) := (by show _ = _; rw [hSV, rowArr_size]); have HS1 : Hid (SV.all (·.oneCell') = true) := (by show _ = _; rw [hSV]; exact setArr_one16 _ _ _ _ _); rw [← hSV]; obtain ⟨N, hN⟩ : ∃ N, N = (srcsTo L (S : Int) L.length).length := ⟨_, rfl⟩; have HN := Lib.hid hN; rw [← hN]; clear hN hSV b2 hset hsrc HMK; have HALL : Hid (∀ c : Array Value, (w2.alloc (.cells c 25)).heap[w2.heap.size]? = some (.cells c 25 (0, 0))) := (fun c => heap_alloc_last w2 _); have HALB : Hid (∀ c : Array Value, Below w2.heap.size w2 (w2.alloc (.cells c 25))) := (fun c => (Below.refl _ _).alloc (Nat.le_refl _) _))
      | (refine wpList_store_arr rfl 25 _ _ rfl w2.heap.size SV rfl rfl 25 _ (HALL.out _) (by rw [HSs.out]; kernel_rfl) (by rw [HSs.out]; rfl) HS1.out ?_; intro w3 HC3 hf3; have HB23 : Hid (Below w2.heap.size w2 w3) := (HALB.out _).trans (hf3.out.below (HALB.out _).size (fun k hk e => by omega)); clear hf3 HALL HALB))
  obtain ⟨g5, hg5⟩ : ∃ g5, g5 = w2.heap.size := ⟨_, rfl⟩
  rw [← hg5] at HC3
  rw [← hg5]
  have HB3 : Hid (Below w.heap.size w w3) := (HB1.out.trans (HB2.out.mono HB1.out.size)).trans (HB23.out.mono (Nat.le_trans HB1.out.size HB2.out.size))
  have HSE3 := Lib.hid (HSET.out.below HB23.out)
  have HSR3 := Lib.hid (HSRC.out.below HB23.out)
  have HWR : Hid (Calls Tryd.prog 19 #[.slice a L.length cap, .int .i64 (S : Int)] w3 fun e w' => e = .returned (.int .i64 0) ∧ Below w3.heap.size w3 w') := (wrong_any a cap L (S : Int) w3 (HS.out.below HB3.out) HFI.out HZ.out).mono fun e w' ⟨⟨c, he, hc⟩, hb⟩ => ⟨by rw [he, hc.one HCF.out], hb⟩
  have hl5 : g5 < w3.heap.size := (Array.getElem?_eq_some_iff.1 HC3.out).1
  clear hg5 HB23 HSET HSRC HCF
  go_upto_region 5 with (go_at_call 19; (with_reducible refine HWR.out.mono ?_); rintro e w4 ⟨rfl, b4⟩; have HB4 := Lib.hid b4; clear b4 HWR)
  have HBW4 : Hid (Below w.heap.size w w4) := HB3.out.trans (HB4.out.mono HB3.out.size)
  have HSE4 := Lib.hid (HSE3.out.below HB4.out)
  have HSR4 := Lib.hid (HSR3.out.below HB4.out)
  have HC4 : Hid (w4.heap[g5]? = some (.cells SV 25 (0, 0))) := (HB4.out.block g5 hl5).trans HC3.out
  have hfl : (setOf L (S : Int)).files.length = L.length := filsTo_len _ _ _
  have hsl : (setOf L (S : Int)).slices.length = N := by show ((srcsTo L (S : Int) L.length).map smOf).length = _; rw [List.length_map, HN.out]
  have HCB : Hid (∀ j, j < 3 → w4.cell? ⟨g5, 0 + j, none⟩ = some (setV (setOf L (S : Int)) fa fc sa sc j)) := fun j hj => by
    rw [cell_of_block HC4.out, Nat.zero_add, ← VS.out]
    simp [rowArr, hj]
  have HK : Hid (∀ w', Below w4.heap.size w4 w' → w'.cell? ⟨g5, 0, none⟩ = some (.int .i64 (S : Int)) ∧ w'.cell? ⟨g5, 1, none⟩ = some (.slice fa L.length fc) ∧ w'.cell? ⟨g5, 2, none⟩ = some (.slice sa N sc)) := fun w' hb => by
    have hl : g5 < w4.heap.size := (Array.getElem?_eq_some_iff.1 HC4.out).1
    have h0 := HCB.out 0 (by omega)
    have h1 := HCB.out 1 (by omega)
    have h2 := HCB.out 2 (by omega)
    rw [Nat.zero_add] at h0 h1 h2
    refine ⟨(hb.cell (p := ⟨g5, 0, none⟩) hl).trans h0, (hb.cell (p := ⟨g5, 1, none⟩) hl).trans (h1.trans ?_), (hb.cell (p := ⟨g5, 2, none⟩) hl).trans (h2.trans ?_)⟩
    · show some (Value.slice fa (setOf L (S : Int)).files.length fc) = _
      rw [hfl]
    · show some (Value.slice sa (setOf L (S : Int)).slices.length sc) = _
      rw [hsl]
  have hfm := refFormed_any (setOf L (S : Int)) fa fc sa sc w4 HSE4.out
  rw [VS.out] at hfm
  have HFM : Hid (Calls Tryd.prog 9 #[.agg SV] w4 fun e w' => e = .returned (.bool true) ∧ Below w4.heap.size w4 w') := hfm.mono fun e w' ⟨⟨r, he, hr⟩, hb⟩ => ⟨by rw [he, hr.2 (setOf_formed HFT.out)], hb⟩
  have hN64 : N ≤ 64 := by rw [← hsl]; exact (setOf_formed HFT.out).m1
  clear hfm hfl HSE3 HSR3 HC3 hl5 HB4
  go_upto_region 9 with (first
    | (refine wpList_load_v (by rfl) 25 _ rfl g5 0 3 _ SV VS.out rfl _ HCB.out Tryd.underlying25 rfl (by kernel_rfl) ?_)
    | (go_at_call 9; (with_reducible refine HFM.out.mono ?_); rintro e w5 ⟨rfl, b5⟩; have HB5 := Lib.hid b5; clear b5 HFM; obtain ⟨kk0, kk1, kk2⟩ := HK.out w5 HB5.out))
  have HBW5 : Hid (Below w.heap.size w w5) := HBW4.out.trans (HB5.out.mono HBW4.out.size)
  have HK5 : Hid (∀ w', Below w5.heap.size w5 w' → w'.cell? ⟨g5, 0, none⟩ = some (.int .i64 (S : Int)) ∧ w'.cell? ⟨g5, 1, none⟩ = some (.slice fa L.length fc) ∧ w'.cell? ⟨g5, 2, none⟩ = some (.slice sa N sc)) := fun w' h => HK.out w' (HB5.out.trans (h.mono HB5.out.size))
  have HSE5 := Lib.hid (HSE4.out.below HB5.out)
  have HSR5 := Lib.hid (HSR4.out.below HB5.out)
  have HSLL := Lib.hid hsl
  have HBR0 : Hid (Below w5.heap.size w5 w5) := Below.refl _ _
  clear kk0 kk1 kk2 HK HSE4 HSR4 HBW4 HCB HB5 hsl HC4
  go_wp2_with fail
  go_loopw [80] (fun i wr => ∃ k : Nat, k ≤ N ∧ i = .int .i64 k ∧ Hid (Below w5.heap.size w5 wr)) (fun i _ => N - (intOf i).toNat)
  case atStart => exact ⟨0, by omega, rfl, HBR0⟩
  case round =>
    obtain ⟨k, hk, rfl, HB⟩ := hrel
    clear HBR0
    by_cases hlt : k < N
    · have hltR : k < (srcsTo L (S : Int) L.length).length := by rw [← HN.out]; exact hlt
      have hltS : k < (setOf L (S : Int)).slices.length := by rw [HSLL.out]; exact hlt
      obtain ⟨sb, so, hsa, hsb, hx⟩ := sms_one (HSE5.out.slices.below HB.out) hltS
      obtain ⟨rg, p, q, hra, hrg, hcs, hslp⟩ := src_one (HSR5.out.below HB.out) hltR
      subst hsa
      subst hra
      have hok := HSE5.out.slices.rng _ (List.getElem_mem hltS)
      have hxe : (setOf L (S : Int)).slices[k] = smOf ((srcsTo L (S : Int) L.length)[k]) := by
        have h1 : (setOf L (S : Int)).slices[k]? = some (smOf ((srcsTo L (S : Int) L.length)[k])) := by
          show ((srcsTo L (S : Int) L.length).map smOf)[k]? = _
          rw [List.getElem?_map, List.getElem?_eq_getElem hltR]
          rfl
        rw [List.getElem?_eq_getElem hltS] at h1
        exact Option.some.inj h1
      rw [hxe] at hx hok
      have hshort := srcs_short L S L.length _ (List.getElem_mem hltR)
      obtain ⟨P, hP⟩ : ∃ P, P = (srcsTo L (S : Int) L.length)[k] := ⟨_, rfl⟩
      rw [← hP] at hx hok hcs hslp hshort
      have hS2 := HFT.out.s2
      have hPl : P.length ≤ 1000000 := by omega
      have HXC := Lib.hid (smAt_cells hx hok)
      have HSLP := Lib.hid hslp
      obtain ⟨m, hme⟩ : ∃ m, m = P.length := ⟨_, rfl⟩
      have HME := Lib.hid hme
      rw [← hme] at hcs hPl
      obtain ⟨SX, hSX⟩ : ∃ SX, SX = rowArr 34 (smV (smOf P)) := ⟨_, rfl⟩
      have VX : Hid (rowArr 34 (smV (smOf P)) = SX) := hSX.symm
      have HSXs : Hid (SX.size = 34) := by show _ = _; rw [hSX, rowArr_size]
      have HSX1 : Hid (SX.all (·.oneCell') = true) := by show _ = _; rw [hSX]; exact oneCell_sm _
      have HALL : Hid (∀ c : Array Value, (wr.alloc (.cells c 57)).heap[wr.heap.size]? = some (.cells c 57 (0, 0))) := fun c => heap_alloc_last wr _
      have HALB : Hid (∀ c : Array Value, Below wr.heap.size wr (wr.alloc (.cells c 57))) := fun c => (Below.refl _ _).alloc (Nat.le_refl _) _
      obtain ⟨kk0, kk1, kk2⟩ := HK5.out wr HB.out
      clear kk0 kk1 hx hok hxe hshort hSX hme hP hslp hltR hltS hS2
      go_upto_region 13 with (first
        | (refine wpList_load_v (by rfl) 57 _ rfl sb (so + k * 34) 34 _ SX VX.out rfl _ HXC.out und_sm rfl (by kernel_rfl) ?_)
        | (refine wpList_store_arr rfl 57 _ _ rfl wr.heap.size SX rfl rfl 57 _ (HALL.out _) (by rw [HSXs.out]; kernel_rfl) (by rw [HSXs.out]; rfl) HSX1.out ?_; intro w7 HC7 hf7; have HB67 : Hid (Below wr.heap.size wr w7) := (HALB.out _).trans (hf7.out.below (HALB.out _).size (fun k hk e => by omega)); clear hf7 HALL HALB))
      obtain ⟨g, hg⟩ : ∃ g, g = wr.heap.size := ⟨_, rfl⟩
      rw [← hg] at HC7
      rw [← hg]
      rw [← VX.out] at HC7
      have hX7 : Row w7 g 57 34 34 (smV (smOf P)) := Row.of_whole HC7.out
      have HB7 := Lib.hid (HB.out.trans (HB67.out.mono HB.out.size))
      obtain ⟨cr, hcr⟩ : ∃ cr, cr = crcOf P := ⟨_, rfl⟩
      obtain ⟨DG, hDG⟩ : ∃ DG, DG = rowArr 32 (vOf (dgN P)) := ⟨_, rfl⟩
      have VD : Hid (rowArr 32 (vOf (dgN P)) = DG) := hDG.symm
      have kr0 := cell_regrown (v := .int .i64 (m : Int)) (by rw [hX7.cell 0 (by omega), HME.out]; rfl : w7.cell? ⟨g, 0, none⟩ = _)
      have kr1 := cell_regrown (v := .int .u32 (cr : Int)) (by rw [hX7.cell 1 (by omega), hcr]; rfl : w7.cell? ⟨g, 1, none⟩ = _)
      have hgl : g < w7.heap.size := (Array.getElem?_eq_some_iff.1 HC7.out).1
      have KD : Hid (∀ d os j, j < 32 → (Go.Sort.grow (redrawn w7 d) os).cell? ⟨g, 2 + j, none⟩ = some (vOf (dgN P) j)) := fun d os j hj => by
        rw [(below_regrown w7 d os).cell (p := ⟨g, 2 + j, none⟩) hgl, hX7.cell (2 + j) (by omega)]
        unfold smV
        rw [if_neg (by omega), if_neg (by omega), show 2 + j - 2 = j by omega]
        rfl
      have kcs := cell_regrown ((HB67.out.cell (p := ⟨rg, k, none⟩) hrg).trans hcs)
      have hsl7 := HSLP.out.below HB67.out
      have CN1 := fun d os => Calls.regrown_of (v := .int .u32 (cr : Int)) ((refCrc_sl p q P (Go.Sort.grow (redrawn w7 d) os) (hsl7.below (below_regrown w7 d os))).mono fun e w' ⟨he, hw⟩ => ⟨by rw [he, hcr], hw ▸ Below.refl _ _⟩)
      have CN2 := fun d os => Calls.regrown_of (v := .agg DG) ((refDigest_sl p q P (Go.Sort.grow (redrawn w7 d) os) (hsl7.below (below_regrown w7 d os)) (by rw [← HME.out]; omega)).mono fun e w' ⟨he, hb⟩ => ⟨by rw [he, hDG], hb⟩)
      rw [← HME.out] at CN1 CN2
      have nn : ∀ w, (binOp .neq 39 (.agg DG) (.agg DG)).run Tryd.prog w = .ok (.bool false) w := fun w => by
        rw [run_neq_struct, hDG, eq_arr Tryd.underlying39 (dgN_byte P) (dgN_byte P) (dgN_len P) (dgN_len P) 9998 w]
        simp [Result.andThen]
      clear hX7 hcr hDG hg hsl7 hcs VX HSXs HSX1 HC7 HXC
      refine wp_region_quiet_below mixed (by kernel_rfl) ?_
      repeat (first
        | (refine wpQuiet_load_v (by rfl) 39 _ rfl g 2 32 _ DG VD.out rfl _ (fun w hw j hj => by obtain ⟨⟨d, os⟩, rfl⟩ := hw; exact KD.out d os j hj) Tryd.underlying39 rfl (by kernel_rfl) ?_)
        | go_big_quiet_step (first | exact CN1 _ _ | exact CN2 _ _) | quiet_step (first | exact CN1 _ _ | exact CN2 _ _))
      refine wpQuiet_nil ?_
      intro _ hw'
      obtain ⟨⟨dq, osq⟩, hw''⟩ := hw'
      subst hw''
      have HB8 : Hid (Below w5.heap.size w5 (Go.Sort.grow (redrawn w7 dq) osq)) := HB7.out.trans ((below_regrown w7 dq osq).mono HB7.out.size)
      clear CN1 CN2 nn KD kr0 kr1 kcs
      generalize Go.Sort.grow (redrawn w7 dq) osq = w8 at *
      go_wp2_with fail
      go_roundw
      case rel => exact ⟨k + 1, by omega, by go_num, HB8⟩
      case measure => simp [intOf]; omega
    · obtain rfl : N = k := by omega
      have HB0 := HB
      clear HB hlt hk
      go_wp2_with fail
      go_loopw [119] (fun i wr => ∃ j : Nat, j ≤ L.length ∧ i = .int .i64 j ∧ Hid (Below w5.heap.size w5 wr)) (fun i _ => L.length - (intOf i).toNat)
      case atStart => exact ⟨0, by omega, rfl, HB0⟩
      case round =>
        obtain ⟨j, hj, rfl, HB⟩ := hrel
        clear HB0
        by_cases hlt : j < L.length
        · have hltF : j < (setOf L (S : Int)).files.length := by show j < (filsTo L (S : Int) L.length).length; rw [filsTo_len]; exact hlt
          obtain ⟨fb, fo, hfa, hfb, hx⟩ := fils_one (HSE5.out.files.below HB.out) hltF
          obtain ⟨ib, io, hia, hib, hi⟩ := inps_one (HS.out.below (HBW5.out.trans (HB.out.mono HBW5.out.size))) hlt
          obtain ⟨i0, i1⟩ := inp_cells hlt hi
          have hisl := (HS.out.sl _ (List.getElem_mem hlt)).below (HBW5.out.trans (HB.out.mono HBW5.out.size))
          have hok := HSE5.out.files.rng _ (List.getElem_mem hltF)
          have hxe : (setOf L (S : Int)).files[j] = filOf L (S : Int) j := by
            have h1 : (setOf L (S : Int)).files[j]? = some (filOf L (S : Int) j) := by
              show ((List.range L.length).map (filOf L (S : Int)))[j]? = _
              rw [List.getElem?_map, List.getElem?_range hlt]
              rfl
            rw [List.getElem?_eq_getElem hltF] at h1
            exact Option.some.inj h1
          rw [hxe] at hx hok
          subst hfa
          subst hia
          have hgd := getI hlt
          have hone := HFI.out.one hlt
          rw [hgd] at hone
          have hF3 := HFI.out.cnt (S : Int) (k := j) (by omega)
          have hS1 := HFT.out.s1
          have hS2 := HFT.out.s2
          obtain ⟨f, hfe⟩ : ∃ f, f = L[j] := ⟨_, rfl⟩
          rw [← hfe] at hgd hone i0 i1 hisl
          have hfof : filOf L (S : Int) j = ⟨f.name, (f.b.length : Int), dgN f.b, (cntOf L (S : Int) j : Int)⟩ := by unfold filOf; rw [hgd]
          rw [hfof] at hx hok
          obtain ⟨X, hXX⟩ : ∃ X : Fil, X = ⟨f.name, (f.b.length : Int), dgN f.b, (cntOf L (S : Int) j : Int)⟩ := ⟨_, rfl⟩
          rw [← hXX] at hx hok
          have HXX := Lib.hid hXX
          have HGD := Lib.hid hgd
          have HBL := Lib.hid hone.1
          have HISL := Lib.hid hisl
          have HXC : Hid (∀ m, m < 35 → wr.cell? ⟨fb, fo + j * 35 + m, none⟩ = some (filV X m)) := hx
          obtain ⟨SX, hSX⟩ : ∃ SX, SX = rowArr 35 (filV X) := ⟨_, rfl⟩
          have VX : Hid (rowArr 35 (filV X) = SX) := hSX.symm
          have HSXs : Hid (SX.size = 35) := by show _ = _; rw [hSX, rowArr_size]
          have HSX1 : Hid (SX.all (·.oneCell') = true) := by show _ = _; rw [hSX]; exact oneCell_fil _
          have HALL : Hid (∀ c : Array Value, (wr.alloc (.cells c 41)).heap[wr.heap.size]? = some (.cells c 41 (0, 0))) := fun c => heap_alloc_last wr _
          have HALB : Hid (∀ c : Array Value, Below wr.heap.size wr (wr.alloc (.cells c 41))) := fun c => (Below.refl _ _).alloc (Nat.le_refl _) _
          obtain ⟨kk0, kk1, kk2⟩ := HK5.out wr HB.out
          clear kk0 kk2 hx hok hxe hSX hisl hone hgd hfof hXX hltF hi hfe
          go_upto_region 20 with (first
            | (refine wpList_load_v (by rfl) 41 _ rfl fb (fo + j * 35) 35 _ SX VX.out rfl _ HXC.out und_file rfl (by kernel_rfl) ?_)
            | (refine wpList_store_arr rfl 41 _ _ rfl wr.heap.size SX rfl rfl 41 _ (HALL.out _) (by rw [HSXs.out]; kernel_rfl) (by rw [HSXs.out]; rfl) HSX1.out ?_; intro w7 HC7 hf7; have HB67 : Hid (Below wr.heap.size wr w7) := (HALB.out _).trans (hf7.out.below (HALB.out _).size (fun k hk e => by omega)); clear hf7 HALL HALB))
          obtain ⟨g, hg⟩ : ∃ g, g = wr.heap.size := ⟨_, rfl⟩
          rw [← hg] at HC7
          rw [← hg]
          rw [← VX.out] at HC7
          have hX7 : Row w7 g 41 35 35 (filV X) := Row.of_whole HC7.out
          have HX7 := Lib.hid hX7
          have HB7 := Lib.hid (HB.out.trans (HB67.out.mono HB.out.size))
          have HSR7 := Lib.hid (HSR5.out.below HB7.out)
          have HISL7 := Lib.hid (HISL.out.below HB67.out)
          have hi0 := (HB67.out.cell (p := ⟨ib, io + j * 2, none⟩) hib).trans i0
          have hi1 := (HB67.out.cell (p := ⟨ib, io + j * 2 + 1, none⟩) hib).trans i1
          have HI0 := Lib.hid hi0
          have HI1 := Lib.hid hi1
          obtain ⟨r0, r1, r34⟩ := fil_row hX7
          rw [HXX.out] at r0 r1 r34
          have HR0 := Lib.hid r0
          have HR1 := Lib.hid r1
          have hgl : g < w7.heap.size := (Array.getElem?_eq_some_iff.1 HC7.out).1
          obtain ⟨n2, hn2⟩ : ∃ n2, n2 = f.b.length := ⟨_, rfl⟩
          have HN2 := Lib.hid hn2
          have hn23 : n2 ≤ 30000 := by rw [hn2]; exact HBL.out
          obtain ⟨F0, hF0⟩ : ∃ F0, F0 = cntOf L (S : Int) j := ⟨_, rfl⟩
          have HF0 := Lib.hid hF0
          rw [← hF0] at r34 hF3
          have hCT := count_any (f.b.length : Int) (S : Int) w7 ⟨by omega, by omega⟩ ⟨by omega, by omega⟩
          have hcl := cntN_le (f.b.length : Int) (S : Int)
          have hle := cntOf_mono L (S : Int) (j := j + 1) (k := L.length) (by omega)
          have hle2 : cntOf L (S : Int) (j + 1) = cntOf L (S : Int) j + cntN (f.b.length : Int) (S : Int) := by
            show cntOf L (S : Int) j + cntN (L.getD j zInp).b.length (S : Int) = _
            rw [HGD.out]
          rw [← srcsTo_len L (S : Int) L.length, ← HN.out] at hle
          rw [hle2, ← hF0] at hle
          obtain ⟨c, hc⟩ : ∃ c, c = cntN (f.b.length : Int) (S : Int) := ⟨_, rfl⟩
          have HCC := Lib.hid hc
          rw [← hc, ← hn2] at hCT
          rw [← hc] at hcl hle
          rw [← hn2] at r1 hi1
          have hc3 : c ≤ 30000 := by omega
          have HCT := Lib.hid hCT
          have hz0 : strOf (f.b.take (0 * S)) = ⟨#[]⟩ := by rw [Nat.zero_mul, List.take_zero]; rfl
          have HZ0 : Hid ((⟨#[]⟩ : ByteArray) = strOf (f.b.take (0 * S))) := hz0.symm
          clear hX7 hi0 hi1 r0 hn2 hF0 hCT hcl hc hle2 hz0 i0 i1 VX HSXs HSX1 HXC hg HB67
          go_wp2_with (go_at_call 22; refine HCT.out.mono ?_; rintro e w' ⟨rfl, hw⟩; obtain rfl := hw)
          go_loopw [13, 131] (fun t i w9 => ∃ m : Nat, m ≤ c ∧ i = .int .i64 m ∧ t = .string (strOf (f.b.take (m * S))) ∧ w7 = w9) (fun _ i _ => c - (intOf i).toNat)
          case atStart => exact ⟨0, by omega, rfl, by rw [← HZ0.out], rfl⟩
          case round =>
            obtain ⟨m, hm, rfl, rfl, rfl⟩ := hrel
            by_cases hlm : m < c
            · have hltR : cntOf L (S : Int) j + m < (srcsTo L (S : Int) L.length).length := by rw [← HN.out, ← HF0.out]; omega
              obtain ⟨rg, p, q, hra, hrg, hcs, hslp⟩ := src_one HSR7.out hltR
              subst hra
              have hgt := srcs_get L (S : Int) (n := L.length) (k := j) (i := m) hlt (by rw [HGD.out, ← HCC.out]; exact hlm)
              rw [List.getElem?_eq_getElem hltR, HGD.out, Int.toNat_natCast] at hgt
              rw [Option.some.inj hgt, ← HF0.out] at hcs
              rw [Option.some.inj hgt] at hslp
              obtain ⟨P, hP⟩ : ∃ P, P = chunkAt f.b S m := ⟨_, rfl⟩
              rw [← hP] at hcs hslp
              have hcv := conv_sl _ _ _ _ hslp
              obtain ⟨pl, hpl⟩ : ∃ pl, pl = P.length := ⟨_, rfl⟩
              rw [← hpl] at hcs hcv
              obtain ⟨A, hA⟩ : ∃ A, A = strOf (f.b.take (m * S)) := ⟨_, rfl⟩
              obtain ⟨B, hB⟩ : ∃ B, B = strOf P := ⟨_, rfl⟩
              rw [← hB] at hcv
              have HAB : Hid (A ++ B = strOf (f.b.take ((m + 1) * S))) := by
                show _ = _
                rw [hA, hB, strOf_app, hP]
                unfold chunkAt
                rw [Nat.add_mul, Nat.one_mul, List.take_add]
              rw [← hA]
              have hFm : F0 + m < N := by omega
              obtain ⟨z, hz⟩ : ∃ z, z = F0 + m := ⟨_, rfl⟩
              rw [← hz] at hcs hFm
              have hzz : (F0 : Int) + (m : Int) = (z : Int) := by omega
              have hzN : (z : Int) < (N : Int) := by omega
              have hz63 : z ≤ 100 := by omega
              clear hz
              have hAs : A.size ≤ 30000 := by rw [hA, strOf_size, List.length_take]; have := HBL.out; omega
              have hBs : B.size ≤ 30000 := by rw [hB, strOf_size, hP, chunkAt_len]; have := HBL.out; omega
              have hAB1 : A.size + B.size ≤ 9223372036854775807 := by omega
              have hAB2 : ¬ 9223372036854775807 < A.size + B.size := by omega
              clear hltR hgt hslp hP hpl hA hB
              go_wp2_with fail
              go_roundw
              case rel => exact ⟨m + 1, by omega, by go_num, by rw [← HAB.out], trivial⟩
              case measure => simp [intOf]; omega
            · obtain rfl : c = m := by omega
              have htk : f.b.take (c * S) = f.b := by
                have h := cat_all f.b hS1 hS2
                unfold chunksOf at h
                rw [cat_take, Int.toNat_natCast, ← HCC.out] at h
                exact h
              rw [htk]
              obtain ⟨B0, hB0⟩ : ∃ B0, B0 = strOf f.b := ⟨_, rfl⟩
              rw [← hB0]
              obtain ⟨NM, hNM⟩ : ∃ NM, NM = strOf f.name := ⟨_, rfl⟩
              obtain ⟨DG, hDG⟩ : ∃ DG, DG = rowArr 32 (vOf (dgN f.b)) := ⟨_, rfl⟩
              have VD : Hid (rowArr 32 (vOf (dgN f.b)) = DG) := hDG.symm
              have hr0 := HR0.out
              have hr1 := HR1.out
              have hi0 := HI0.out
              have hi1 := HI1.out
              rw [← hNM] at hr0 hi0
              rw [← HN2.out] at hr1 hi1
              have kr0 := cell_regrown hr0
              have kr1 := cell_regrown hr1
              have ki0 := cell_regrown hi0
              have ki1 := cell_regrown hi1
              have KD : Hid (∀ d os m, m < 32 → (Go.Sort.grow (redrawn w7 d) os).cell? ⟨g, 2 + m, none⟩ = some (vOf (dgN f.b) m)) := fun d os m hm => by
                rw [(below_regrown w7 d os).cell (p := ⟨g, 2 + m, none⟩) hgl, HX7.out.cell (2 + m) (by omega), HXX.out]
                unfold filV
                rw [if_neg (by omega), if_neg (by omega), if_pos (by omega), show 2 + m - 2 = m by omega]
              have kcv : ∀ d os, (convert 36 9 (.slice f.a n2 f.c)).run Tryd.prog (Go.Sort.grow (redrawn w7 d) os) = .ok (.string B0) (Go.Sort.grow (redrawn w7 d) os) := fun d os => by
                rw [HN2.out, hB0]; exact conv_sl _ _ _ _ (HISL7.out.below (below_regrown w7 d os))
              have CN2 := fun d os => Calls.regrown_of (v := .agg DG) ((refDigest_sl f.a f.c f.b (Go.Sort.grow (redrawn w7 d) os) (HISL7.out.below (below_regrown w7 d os)) (by have := HBL.out; omega)).mono fun e w' ⟨he, hb⟩ => ⟨by rw [he, hDG], hb⟩)
              rw [← HN2.out] at CN2
              have nn : ∀ w, (binOp .neq 39 (.agg DG) (.agg DG)).run Tryd.prog w = .ok (.bool false) w := fun w => by
                rw [run_neq_struct, hDG, eq_arr Tryd.underlying39 (dgN_byte f.b) (dgN_byte f.b) (dgN_len f.b) (dgN_len f.b) 9998 w]
                simp [Result.andThen]
              clear htk hB0 hNM hDG hr0 hr1 hi0 hi1 hm r1 r34 hlm
              go_upto_region 26 with fail
              refine wp_region_quiet_below mixed (by kernel_rfl) ?_
              repeat (first
                | (refine wpQuiet_load_v (by rfl) 39 _ rfl g 2 32 _ DG VD.out rfl _ (fun w hw j hj => by obtain ⟨⟨d, os⟩, rfl⟩ := hw; exact KD.out d os j hj) Tryd.underlying39 rfl (by kernel_rfl) ?_)
                | go_big_quiet_step (exact CN2 _ _) | quiet_step (exact CN2 _ _))
              refine wpQuiet_nil ?_
              intro _ hw'
              obtain ⟨⟨dq, osq⟩, hw''⟩ := hw'
              subst hw''
              have HB8 : Hid (Below w5.heap.size w5 (Go.Sort.grow (redrawn w7 dq) osq)) := HB7.out.trans ((below_regrown w7 dq osq).mono HB7.out.size)
              clear CN2 nn KD kr0 kr1 ki0 ki1 kcv
              generalize Go.Sort.grow (redrawn w7 dq) osq = w8 at *
              go_wp2_with fail
              go_roundw
              case rel => exact ⟨j + 1, by omega, by go_num, HB8⟩
              case measure => simp [intOf]; omega
        · go_wp2_with fail
          exact HT1.out _ (HBW5.out.trans (HB.out.mono HBW5.out.size))
end Go.Proofs.YtechekkojinkmaaDoor
end

section
namespace Go.Proofs.YtechekkojinkmaaDoor
open Go.ChangeShapes Go.WideShapes Go.ChangeAt Go.RowKit
set_option linter.unusedVariables false

theorem ownD : ownKnob Tryd.prog.godebug = none := by kernel_rfl
theorem laidOutD : laidOutB Tryd.prog = true := by kernel_rfl
theorem cellsU32 : Tryd.prog.cellsOf 42 = 1 := by kernel_rfl
/-- An array of numbers of one cell each, opened: each cell holds its number. -/
theorem array_cells32 {H : Type} {enc : TypeId × Value → H} {w : World} {base fuel n : Nat} {spare : Nat → Bool} {held : Bool} {t : TypeId} {cs : List Value} {zs : List Int} {ps : List MemPlace}
    (ht : Tryd.prog.underlying t = some (.array n 42)) (hd : DataW.trod enc Tryd.prog w base spare held fuel t cs = some (.agg (zs.map fun z => .lit (.int .u32 z)), ps)) :
    zs.length = n ∧ ∀ i (h : i < zs.length), cs[i]? = some (.int .u32 zs[i]) := by
  obtain ⟨xs, m1, _, hx1, hcl, hn3, hel⟩ := DataW.trod_array ht hd
  simp only [Prod.mk.injEq, DataW.agg.injEq] at hx1
  have hl : zs.length = xs.length := by have := congrArg List.length hx1.1; simpa using this
  refine ⟨hl.trans hn3, fun i hi => ?_⟩
  have hix : i < xs.length := by omega
  have h0 := hel i (by omega)
  rw [cellsU32, Nat.mul_one, List.getElem?_eq_getElem hix] at h0
  obtain ⟨k, e1, e2, _⟩ := DataW.trod_int Tryd.underlying42 h0
  have hk : zs[i] = k := by
    have := congrArg (fun l => l[i]?) hx1.1
    simp [hi, hix, e2] at this
    exact this
  rw [hk]
  have : (cs.drop i)[0]? = some (.int .u32 k) := by
    cases h : cs.drop i with
    | nil => rw [h] at e1; simp at e1
    | cons c r => rw [h] at e1; simp at e1; simp [e1]
  simpa using this
theorem gStart : Tryd.prog.globalNamed "geyser/sum.start" = some 0 := by kernel_rfl
theorem tStart : (Tryd.prog.globals[0]?).map (·.type) = some 124 := by kernel_rfl
theorem gRounds : Tryd.prog.globalNamed "geyser/sum.rounds" = some 1 := by kernel_rfl
theorem tRounds : (Tryd.prog.globals[1]?).map (·.type) = some 141 := by kernel_rfl
def startL : List Int := [1779033703, 3144134277, 1013904242, 2773480762, 1359893119, 2600822924, 528734635, 1541459225]
def roundsL : List Int := Sha.kL.map fun k : Nat => (k : Int)
theorem rounds_get : ∀ k, k < 64 → roundsL[k]? = some ((Sha.kN k : Nat) : Int) := by decide +kernel
theorem start_get : ∀ k, k < 8 → startL[k]? = some ((Sha.start8.get k : Nat) : Int) := by decide +kernel
theorem array_get32 {H : Type} {enc : TypeId × Value → H} {w : World} {base fuel n : Nat} {spare : Nat → Bool} {held : Bool} {t : TypeId} {cs : List Value} {zs : List Int} {ps : List MemPlace}
    (ht : Tryd.prog.underlying t = some (.array n 42)) (hd : DataW.trod enc Tryd.prog w base spare held fuel t cs = some (.agg (zs.map fun z => .lit (.int .u32 z)), ps)) (k : Nat) (z : Int) (hz : zs[k]? = some z) :
    cs[k]? = some (.int .u32 z) := by
  have hk : k < zs.length := by
    rcases Nat.lt_or_ge k zs.length with h | h
    · exact h
    · rw [List.getElem?_eq_none h] at hz; cases hz
  have := (array_cells32 ht hd).2 k hk
  rw [List.getElem?_eq_getElem hk] at hz
  rw [← Option.some.inj hz]
  exact this
/-- What the condition gives the walks: the two tables. -/
theorem tabs_of {W : World} (h : laidMetH Tryd.prog [("geyser/sum.start", Rows.laid_geyser_sum_start), ("geyser/sum.rounds", Rows.laid_geyser_sum_rounds)] W) : Tabs W := by
  rw [MakeChecks.laidMetH_plain _ _ _ (by kernel_rfl)] at h
  obtain ⟨ps, ⟨g1, t1, cs1, f1, p1, q1, hg1, ht1, hv1, hd1, ⟨g2, t2, cs2, f2, p2, q2, hg2, ht2, hv2, hd2, _⟩, _⟩, _, _⟩ := h
  obtain rfl := Option.some.inj (gStart.symm.trans hg1)
  obtain rfl := Option.some.inj (tStart.symm.trans ht1)
  obtain rfl := Option.some.inj (gRounds.symm.trans hg2)
  obtain rfl := Option.some.inj (tRounds.symm.trans ht2)
  refine ⟨fun k hk => ?_, ?_⟩
  · rw [World.var?_cell hg2 hv2 k]
    have := array_get32 (zs := roundsL) Tryd.underlying141 hd2 k _ (rounds_get k hk)
    simpa using this
  · have hcs : cs1 = Sha.rowArr 8 (Sha.stV Sha.start8) := by
      have hl := (DataW.trod_array Tryd.underlying124 hd1)
      obtain ⟨xs, m1, _, _, hcl, _, _⟩ := hl
      rw [show Tryd.prog.cellsOf 124 = 8 by kernel_rfl] at hcl
      apply Array.ext_getElem?
      intro i
      by_cases hi : i < 8
      · have := array_get32 (zs := startL) Tryd.underlying124 hd1 i _ (start_get i hi)
        rw [← Array.getElem?_toList, this]
        simp [Sha.rowArr, hi, Sha.stV]
      · have h8 : cs1.size = 8 := by simpa using hcl
        rw [Array.getElem?_eq_none (by omega), Array.getElem?_eq_none (by rw [Sha.rowArr_size]; omega)]
    unfold World.var? at hv1
    rw [hg1] at hv1
    simp only [Option.bind_some] at hv1
    split at hv1
    · rename_i cs t fr heq
      have : cs = cs1 := Option.some.inj hv1
      exact ⟨t, fr, by rw [heq, this, hcs]⟩
    · cases hv1
/-- The door's own heap meets the condition. -/
theorem door_met2 (os : Os) (args : Array Value) : laidMetH Tryd.prog [("geyser/sum.start", Rows.laid_geyser_sum_start), ("geyser/sum.rounds", Rows.laid_geyser_sum_rounds)] ((World.doorLaid Tryd.prog 600 os).forCall (fun _ _ => 0) ⟨#[], args, []⟩).memory :=
  laidMetH_of_parts3 (fuel := 8) (laidMet_of_run' 8 (by kernel_rfl) (by kernel_rfl)) (by kernel_rfl) (by kernel_rfl)
end Go.Proofs.YtechekkojinkmaaDoor
end

section
namespace Go.Proofs.YtechekkojinkmaaDoor
open Go.ChangeShapes Go.WideShapes Go.ChangeAt Go.RowKit Go.Joins
set_option linter.unusedVariables false

theorem own16 : ownKnob Tryd.prog.godebug = none := by kernel_rfl
theorem laidOut16 : laidOutB Tryd.prog = true := by kernel_rfl
def laid16 : List (String × DataW Unit) := [("unicode/utf8.acceptRanges", Rows.laid_unicode_utf8_acceptRanges), ("geyser/sum.fours", Rows.laid_geyser_sum_fours), ("geyser/sum.start", Rows.laid_geyser_sum_start), ("geyser/sum.rounds", Rows.laid_geyser_sum_rounds), ("unicode/utf8.first", Rows.laid_unicode_utf8_first)]
theorem plain16 : laidMetH Tryd.prog laid16 = laidMet Tryd.prog laid16 := by funext w; exact MakeChecks.laidMetH_plain _ _ _ (by kernel_rfl)
theorem tabs16 {W : World} (h0 : laidMetH Tryd.prog laid16 W) : Tabs W := by
  rw [plain16] at h0
  have h := h0.tail.tail
  obtain ⟨ps, ⟨g1, t1, cs1, f1, p1, q1, hg1, ht1, hv1, hd1, ⟨g2, t2, cs2, f2, p2, q2, hg2, ht2, hv2, hd2, _⟩, _⟩, _, _⟩ := h
  obtain rfl := Option.some.inj (gStart.symm.trans hg1)
  obtain rfl := Option.some.inj (tStart.symm.trans ht1)
  obtain rfl := Option.some.inj (gRounds.symm.trans hg2)
  obtain rfl := Option.some.inj (tRounds.symm.trans ht2)
  refine ⟨fun k hk => ?_, ?_⟩
  · rw [World.var?_cell hg2 hv2 k]
    have := array_get32 (zs := roundsL) Tryd.underlying141 hd2 k _ (rounds_get k hk)
    simpa using this
  · have hcs : cs1 = Sha.rowArr 8 (Sha.stV Sha.start8) := by
      have hl := (DataW.trod_array Tryd.underlying124 hd1)
      obtain ⟨xs, m1, _, _, hcl, _, _⟩ := hl
      rw [show Tryd.prog.cellsOf 124 = 8 by kernel_rfl] at hcl
      apply Array.ext_getElem?
      intro i
      by_cases hi : i < 8
      · have := array_get32 (zs := startL) Tryd.underlying124 hd1 i _ (start_get i hi)
        rw [← Array.getElem?_toList, this]
        simp [Sha.rowArr, hi, Sha.stV]
      · have h8 : cs1.size = 8 := by simpa using hcl
        rw [Array.getElem?_eq_none (by omega), Array.getElem?_eq_none (by rw [Sha.rowArr_size]; omega)]
    unfold World.var? at hv1
    rw [hg1] at hv1
    simp only [Option.bind_some] at hv1
    split at hv1
    · rename_i cs t fr heq
      have : cs = cs1 := Option.some.inj hv1
      exact ⟨t, fr, by rw [heq, this, hcs]⟩
    · cases hv1
theorem shaped16 (os : Os) : (World.laidAll Tryd.prog os laid16).Shaped Tryd.prog := World.shaped_of_ZipB (by kernel_rfl) (by kernel_rfl)
theorem met16 (os : Os) (args : Array Value) : laidMetH Tryd.prog laid16 ((World.laidAll Tryd.prog os laid16).forCall (fun _ _ => 0) ⟨#[], args, []⟩).memory := by
  rw [plain16]; exact laidMet_laidAll _ (by kernel_rfl) (by kernel_rfl)
instance inp_some : Inhabited Inp := ⟨zInp⟩
theorem gFours : Tryd.prog.globalNamed "geyser/sum.fours" = some 2 := by kernel_rfl
theorem tFours : (Tryd.prog.globals[2]?).map (·.type) = some 144 := by kernel_rfl
def foursL : List Int := [0, 498536548, 997073096, 651767980, 1994146192, 1802195444, 1303535960, 1342533948, 3988292384, 4027552580, 3604390888, 3412177804, 2607071920, 2262029012, 2685067896, 3183342108]
theorem fours_get : ∀ k, k < 16 → foursL[k]? = some ((Sha.four k : Nat) : Int) := by decide
theorem fours16 {W : World} (h0 : laidMetH Tryd.prog laid16 W) : Fours W := by
  rw [plain16] at h0
  have h := h0.tail
  obtain ⟨ps, ⟨g1, t1, cs1, f1, p1, q1, hg1, ht1, hv1, hd1, _⟩, _, _⟩ := h
  obtain rfl := Option.some.inj (gFours.symm.trans hg1)
  obtain rfl := Option.some.inj (tFours.symm.trans ht1)
  intro k hk
  rw [World.var?_cell hg1 hv1 k]
  have := array_get32 (zs := foursL) Tryd.underlying144 hd1 k _ (fours_get k hk)
  simpa using this
section
variable {H : Type} {enc : TypeId × Value → H} {w : World} {base : Nat} {held : Bool}
theorem cellsInp : Tryd.prog.cellsOf 62 = 2 := by kernel_rfl
set_option maxRecDepth 100000 in
theorem inp_in {fuel : Nat} {cs : List Value} {y : DataW H × List MemPlace} (h : DataW.trod enc Tryd.prog w base (fun _ => true) held fuel 62 cs = some y) (hw : ∀ n ∈ DataW.weights Tryd.prog 62 y.1, n ≤ reachBytes) :
    ∃ x : Inp, cs = [.string (strOf x.name), .slice x.a x.b.length x.c] ∧ (IsByte x.name ∧ x.name.length ≤ 140737488355328 ∧ x.b.length ≤ 140737488355328) ∧ Sl w x.a x.c x.b := by
  obtain ⟨xs, n, _, hy, hlen, hxl, hf⟩ := DataW.trod_struct Tryd.underlying62 h
  have hlen2 : cs.length = 2 := hlen.trans cellsInp
  match cs, hlen2 with
  | [c0, c1], _ =>
    match xs, hxl with
    | [y0, y1], _ =>
      have f0 : DataW.trod enc Tryd.prog w base (fun _ => true) held n 9 [c0] = some y0 := hf 0 _ rfl
      have f1 : DataW.trod enc Tryd.prog w base (fun _ => true) held n 36 [c1] = some y1 := hf 1 _ rfl
      obtain ⟨s, e0, r0, _⟩ := DataW.trod_string Tryd.underlying9 f0
      obtain ⟨a, cap, l, e1, hs, W1⟩ := bytes_in2 f1
      simp only [List.cons.injEq, and_true] at e0
      subst e0 e1
      obtain ⟨nm, rfl, hb, hl⟩ := str_of s
      have hy1 : y.1 = .agg [y0.1, y1.1] := by rw [hy]; rfl
      have hww : DataW.weights Tryd.prog 62 y.1 = DataW.weights Tryd.prog 9 y0.1 ++ (DataW.weights Tryd.prog 36 y1.1 ++ []) := by
        rw [hy1]
        simp [DataW.weights, DataW.weightsEach, Tryd.underlying62]
      rw [hww] at hw
      have h1 := W1 fun q hq => hw q (by simp [hq])
      have h0 := hw (strOf nm).data.toList.length (by rw [r0]; simp [DataW.weights])
      have hr : reachBytes = 140737488351232 := rfl
      have h0s : (strOf nm).data.toList.length = nm.length := by rw [strOf_data, List.length_map]
      exact ⟨⟨nm, l, a, cap⟩, rfl, ⟨hb, by show nm.length ≤ _; omega, by show l.length ≤ _; omega⟩, hs⟩
set_option maxRecDepth 100000 in
/-- Files that are handed in. -/
theorem inps_in {fuel : Nat} {c : Value} {x : DataW H × List MemPlace} (h : DataW.trod enc Tryd.prog w base (fun _ => true) held fuel 50 [c] = some x) (hw : ∀ n ∈ DataW.weights Tryd.prog 50 x.1, n ≤ reachBytes) :
    ∃ a cap L, c = .slice a (L : List Inp).length cap ∧ Inps w a cap L := by
  rcases DataW.trod_slice Tryd.underlying50 h with ⟨hcs, hx⟩ | ⟨a, len, cap, elems, rest, n, _, hcs, hx, hb, hl, hm, hlen, hel, _, _⟩
  · simp only [List.cons.injEq, and_true] at hcs
    exact ⟨none, 0, [], hcs, ⟨fun x hx => (by cases hx), by simp, by unfold maxLen; omega, .inl rfl, fun x hx => (by cases hx)⟩⟩
  · simp only [List.cons.injEq, and_true] at hcs
    obtain ⟨f, hf⟩ := Go.Deep.choose_lt (α := Inp) (p := fun i v => (IsByte v.name ∧ v.name.length ≤ 140737488355328 ∧ v.b.length ≤ 140737488355328) ∧ w.cell? ((a.add (i * 2)).add 0) = some (.string (strOf v.name)) ∧ w.cell? ((a.add (i * 2)).add 1) = some (.slice v.a v.b.length v.c) ∧ Sl w v.a v.c v.b) (n := len) fun i hi => by
      have h1 := hel i hi
      rw [cellsInp] at h1
      have hie : i < elems.length := by omega
      rw [List.getElem?_eq_getElem hie] at h1
      obtain ⟨cs, hcs1, hcs2⟩ := Option.bind_eq_some_iff.1 h1
      obtain ⟨z, rfl, h2, h3⟩ := inp_in hcs2 fun q hq => hw q (by
        rw [hx]
        simp only [DataW.weights, Tryd.underlying50, List.mem_cons, List.mem_append]
        exact .inr (.inl (weights_mem (List.mem_map_of_mem (List.getElem_mem hie)) q hq)))
      obtain ⟨_, _, hc⟩ := World.cells?_some hcs1
      exact ⟨z, h2, hc 0 (by omega), hc 1 (by omega), h3⟩
    have hll : ((List.range len).map f).length = len := by simp
    refine ⟨some a, cap, (List.range len).map f, by rw [hll]; exact hcs, ⟨fun x hx => ?_, by rw [hll]; exact hl, hm, ?_, fun x hx => ?_⟩⟩
    · obtain ⟨i, hi, rfl⟩ := List.mem_map.1 hx
      exact (hf i (List.mem_range.1 hi)).1
    · by_cases h0 : len = 0
      · exact .inl (List.length_eq_zero_iff.1 (by rw [hll]; exact h0))
      · obtain ⟨b, off, spot⟩ := a
        obtain ⟨_, hc0, _⟩ := hf 0 (by omega)
        have hc0' : w.cell? (⟨b, off, spot⟩ : Addr) = some (.string (strOf (f 0).name)) := by simpa [Addr.add] using hc0
        have hspot : spot = none := World.cell?_spot hc0'
        subst hspot
        have hadd : ∀ r j, ((⟨b, off, none⟩ : Addr).add r).add j = ⟨b, off + r + j, none⟩ := fun r j => by rw [addr_add, addr_add]
        refine .inr ⟨b, off, rfl, World.block_lt_of_cell? w _ hc0', fun i hi j hj => ?_⟩
        have hi2 : i < len := by rw [hll] at hi; exact hi
        have hgi : ((List.range len).map f)[i] = f i := by simp
        rw [hgi]
        obtain ⟨_, e0, e1, _⟩ := hf i hi2
        rw [hadd] at e0 e1
        have hj2 : j = 0 ∨ j = 1 := by omega
        rcases hj2 with rfl | rfl
        · exact e0
        · exact e1
    · obtain ⟨i, hi, rfl⟩ := List.mem_map.1 hx
      exact (hf i (List.mem_range.1 hi)).2.2.2
set_option maxRecDepth 100000 in
theorem inps_arg {r : Reach} {b0 : Nat} {v : Value} {d : DataW H} {q : List MemPlace} (hv : Value.okWide Tryd.prog w r b0 50 v) (h : DataW.Trod enc Tryd.prog w base (fun _ => true) held 50 v d q) (hw : ∀ n ∈ DataW.weights Tryd.prog 50 d, n ≤ reachBytes) :
    ∃ a L cap, v = .slice a (L : List Inp).length cap ∧ Inps w a cap L := by
  obtain ⟨a, n, c, rfl⟩ := okWide_slice Tryd.underlying50 hv
  obtain ⟨fuel, hf⟩ := h
  obtain ⟨a', cap', L, e, hs⟩ := inps_in hf hw
  exact ⟨a', L, cap', e, hs⟩
end
end Go.Proofs.YtechekkojinkmaaDoor
end

section
namespace Go.Proofs.YtechekkojinkmaaDoor
open Go.ChangeShapes Go.WideShapes

theorem handed_shaped_sized {H : Type} {enc : TypeId × Value → H} {a : Assume} {C : Checked} {os : Os} {f : FuncId} {fn : Func} {s : ChangeSpec} {conds : List PathCond} {apart fresh handsOn again : Bool} {X : World → Array Value → Prop}
    (stays : ∀ (w w' : World) (args : Array Value), w.heap = w'.heap → X w args → X w' args) (knob : ownKnob C.prog.godebug = none) (hos : os.Started) (plain : C.prog.inits.idxOf? f = none) (is : C.prog.funcs[f]? = some fn)
    (fits : ∃ (w : World) (tape : Tape) (i : Input), w.os = os ∧ (w.forCall tape i).Shaped C.prog ∧ i.vars = [] ∧ Input.okWide C.prog (w.forCall tape i) .any w.heap.size f i ∧
      ((s.pre enc C.prog fn conds apart (w.forCall tape i).memory i.args ∧ X (w.forCall tape i).memory i.args) ∧ sizedMet enc C.prog fn (OpenSpec.ofChange s) apart (w.forCall tape i).memory i.args) ∧ a.holds C.prog (lone (Frame.enter C.prog f i.args .normal) [] (w.forCall tape i)))
    (walk : ∀ (W : World) (base : Nat) (args : Array Value) (ds gs : List (DataW H)) (before : List MemPlace), W.ShapedOpen C.prog → X W args →
      (∀ (j : Nat) t v, fn.params[j]? = some t → args[j]? = some v → Value.okWide C.prog W .any base t v) →
      DataW.Whole enc C.prog fn.params.toList s.vars apart W args.toList ds gs before →
      (DataW.weightsEach C.prog (fn.params.toList ++ s.plain.varTypes C.prog) (ds ++ gs)).all (· ≤ reachBytes) = true →
      Calls C.prog f args W fun e W' => ∃ v, e = .returned v ∧ s.post enc C.prog fn apart fresh handsOn again W args v W') :
    ReturnsInHanded a C os f .any (fun w args => (s.pre enc C.prog fn conds apart w args ∧ X w args) ∧ sizedMet enc C.prog fn (OpenSpec.ofChange s) apart w args) (s.post enc C.prog fn apart fresh handsOn again) := by
  apply returnsInHanded_of_calls knob hos plain fits
  rintro w tape i - shape - ⟨-, -, -, g, hg, -, -, -, -, vals⟩ ⟨⟨⟨ds, gs, before, whole, -⟩, x⟩, hz⟩ -
  obtain rfl : g = fn := Option.some.inj (hg.symm.trans is)
  have W1 : DataW.Whole enc C.prog g.params.toList s.vars apart (w.forCall tape i) i.args.toList ds gs before := DataW.Whole.of_heap (by rfl) whole
  refine (walk _ w.heap.size i.args ds gs before shape (stays (w.forCall tape i).memory _ _ (by rfl) x) vals W1 (hz.weights whole)).mono ?_
  rintro e W' ⟨v, rfl, post⟩
  exact ChangeSpec.post_blind post
end Go.Proofs.YtechekkojinkmaaDoor
end
