/-
  VolumeMakes, walked out of the contracts.
-/
import Derived.Test.YtcopjbapglndgaaGreatDoorMr26
namespace Go.Proofs.YtcopjbapglndgaaGreatDoor
open Go.ChangeShapes Go.WideShapes Go.ChangeAt Go.RowKit Go.Joins
set_option linter.unusedVariables false

set_option maxRecDepth 1000000 in
set_option maxHeartbeats 32000000 in
theorem volumeMakes_walk (hV : VMakeC) (hI : VIdxC) (hR : VRangeC) (a : Option Addr) (cap : Nat) (L : List Inp) (s : Int) (ka : Option Addr) (kc : Nat) (ks : List Nat) (w : World) (hs : Inps w a cap L) (hz : i64R s) (hk : Us w ka kc ks) (hm : Mx w) (ht : Tabs w) (hF : Fours w) :
    Calls Tryz.prog 3 #[.slice a L.length cap, .int .i64 s, .slice ka ks.length kc] w (TrueAnd w) := by
  have mixed : Tryz.prog.follows .mixedOrders = true := by kernel_rfl
  obtain ⟨PQ, hPQ⟩ : ∃ PQ, PQ = TrueAnd w := ⟨_, rfl⟩
  have HT1 : Hid (∀ w', Below w.heap.size w w' → PQ (.returned (.bool true)) w') := by
    show ∀ _, _
    rw [hPQ]; exact fun w' h => ⟨rfl, h⟩
  rw [← hPQ]
  have HAW : Hid (∀ w, Calls Tryz.prog 6 #[] w (TrueAnd w)) := awake17_any hR
  have HFC : Hid (∀ w', Below w.heap.size w w' → Calls Tryz.prog 7 #[.slice a L.length cap] w' fun e w'' => ∃ r : Bool, (e = .returned (.bool r) ∧ Below w'.heap.size w' w'') ∧ (r = true ↔ FewI L)) := fun w' h => few16_any a cap L w' (hs.below h)
  have HS := Lib.hid hs
  have HM := Lib.hid hm
  have HT := Lib.hid ht
  have HFO := Lib.hid hF
  have HU := Lib.hid hk
  have hlm := hs.lt
  have hku := hk.lt
  have HZ := Lib.hid hz
  have HVC := Lib.hid hV
  have HIC := Lib.hid hI
  obtain ⟨hz1, hz2⟩ := hz
  clear hPQ hs hm ht hF hk hV hI hR
  by_cases hf : FewI L
  case neg =>
    have HFW : Hid (∀ w', Below w.heap.size w w' → Calls Tryz.prog 7 #[.slice a L.length cap] w' fun e w'' => e = .returned (.bool false) ∧ Below w'.heap.size w' w'') := fun w' h => (HFC.out w' h).mono fun e w' ⟨r, ⟨he, hb⟩, hr⟩ => ⟨by rw [he, Bool.eq_false_iff.2 fun h => hf (hr.1 h)], hb⟩
    clear HFC hf
    go_enter Tryz.func3, Tryz.ntmps3
    go_wp2_with fail
    (with_reducible refine (HAW.out _).mono ?_)
    rintro e w1 ⟨rfl, b1⟩
    have HB1 := Lib.hid b1
    clear b1
    go_wp2_with fail
    (with_reducible refine (HFW.out w1 HB1.out).mono ?_)
    rintro e w2 ⟨rfl, b2⟩
    have HB2 : Hid (Below w.heap.size w w2) := HB1.out.trans (b2.mono HB1.out.size)
    clear b2
    go_wp2_with fail
    (with_reducible refine (HAW.out _).mono ?_)
    rintro e w3 ⟨rfl, b3⟩
    have HB3 : Hid (Below w.heap.size w w3) := HB2.out.trans (b3.mono HB2.out.size)
    clear b3
    go_wp2_with fail
    exact HT1.out _ HB3.out
  have HFW : Hid (∀ w', Below w.heap.size w w' → Calls Tryz.prog 7 #[.slice a L.length cap] w' fun e w'' => e = .returned (.bool true) ∧ Below w'.heap.size w' w'') := fun w' h => (HFC.out w' h).mono fun e w' ⟨r, ⟨he, hb⟩, hr⟩ => ⟨by rw [he, hr.2 hf], hb⟩
  have HFI := Lib.hid hf
  have hll := hf.len
  clear HFC hf
  by_cases hk70 : 70 < ks.length
  · have d1 : (70 : Int) < (ks.length : Int) := by omega
    go_enter Tryz.func3, Tryz.ntmps3
    go_wp2_with fail
    (with_reducible refine (HAW.out _).mono ?_)
    rintro e w1 ⟨rfl, b1⟩
    have HB1 := Lib.hid b1
    clear b1
    go_wp2_with fail
    (with_reducible refine (HFW.out w1 HB1.out).mono ?_)
    rintro e w2 ⟨rfl, b2⟩
    have HB2 : Hid (Below w.heap.size w w2) := HB1.out.trans (b2.mono HB1.out.size)
    clear b2
    go_wp2_with fail
    (with_reducible refine (HAW.out _).mono ?_)
    rintro e w3 ⟨rfl, b3⟩
    have HB3 : Hid (Below w.heap.size w w3) := HB2.out.trans (b3.mono HB2.out.size)
    clear b3
    go_wp2_with fail
    exact HT1.out _ HB3.out
  have d1 : ¬ (70 : Int) < (ks.length : Int) := by omega
  go_enter Tryz.func3, Tryz.ntmps3
  go_wp2_with fail
  (with_reducible refine (HAW.out _).mono ?_)
  rintro e w1 ⟨rfl, b1⟩
  have HB1 := Lib.hid b1
  clear b1 HAW
  go_wp2_with fail
  (with_reducible refine (HFW.out w1 HB1.out).mono ?_)
  rintro e w2 ⟨rfl, b2⟩
  have HB2 : Hid (Below w.heap.size w w2) := HB1.out.trans (b2.mono HB1.out.size)
  clear b2 HFW HB1
  go_upto_region 3 with fail
  clear d1
  have hmk := make_all a cap L s w2 (HS.out.below HB2.out) HFI.out HZ.out (HM.out.below HB2.out) (HT.out.below HB2.out) (HFO.out.below HB2.out)
  by_cases hfit : CodeIs L s 0
  case neg =>
    obtain ⟨ZA, hZA⟩ : ∃ ZA, ZA = zSetA := ⟨_, rfl⟩
    have HMK : Hid (Calls Tryz.prog 8 #[.slice a L.length cap, .int .i64 s] w2 fun e w' => Below w2.heap.size w2 w' ∧ ∃ c, CodeIs L s c ∧ c ≠ 0 ∧ e = .returned (.tuple #[.agg ZA, .slice none 0 0, .int .i64 c])) := hmk.mono fun e w' ⟨hb, c, hc, h⟩ => by
      rcases h with ⟨h0, he⟩ | ⟨h0, _⟩
      · exact ⟨hb, c, hc, h0, by rw [he, hZA]⟩
      · exact absurd (h0 ▸ hc) hfit
    have HZs : Hid (ZA.size = 3) := by show _ = _; rw [hZA]; rfl
    have HZ1 : Hid (ZA.all (·.oneCell') = true) := by show _ = _; rw [hZA]; kernel_rfl
    clear hmk hfit hZA
    go_upto_region 4 with (first
      | (go_at_call 8; (with_reducible refine HMK.out.mono ?_); rintro e w3 ⟨b3, c, hc, hc0, rfl⟩; have HB3 := Lib.hid b3; have HC := Lib.hid hc; have HC0 := Lib.hid hc0; clear b3 hc hc0 HMK; have HALL : Hid (∀ c : Array Value, (w3.alloc (.cells c 29)).heap[w3.heap.size]? = some (.cells c 29 (0, 0))) := (fun c => heap_alloc_last w3 _); have HALB : Hid (∀ c : Array Value, Below w3.heap.size w3 (w3.alloc (.cells c 29))) := (fun c => (Below.refl _ _).alloc (Nat.le_refl _) _))
      | (refine wpList_store_arr rfl 29 _ _ rfl w3.heap.size ZA rfl rfl 29 _ (HALL.out _) (by rw [HZs.out]; kernel_rfl) (by rw [HZs.out]; rfl) HZ1.out ?_; intro w4 HC4 hf4; have HB34 : Hid (Below w3.heap.size w3 w4) := (HALB.out _).trans (hf4.out.below (HALB.out _).size (fun k hk e => by omega)); clear hf4 HALL HALB))
    have HB4 : Hid (Below w.heap.size w w4) := (HB2.out.trans (HB3.out.mono HB2.out.size)).trans (HB34.out.mono (Nat.le_trans HB2.out.size HB3.out.size))
    have HWR := Lib.hid (wrong_any a cap L s w4 (HS.out.below HB4.out) HFI.out HZ.out)
    have d1 : (c == 0) = false := beq_false_of_ne HC0.out
    have d2 : (c != 0) = true := by simp [HC0.out]
    have d3 : ¬ c = 0 := HC0.out
    clear HB34 HC4
    go_wp2_with fail
    (with_reducible refine HWR.out.mono ?_)
    rintro e w5 ⟨⟨c2, rfl, hc2⟩, b5⟩
    obtain rfl := hc2.one HC.out
    have HB5 : Hid (Below w.heap.size w w5) := HB4.out.trans (b5.mono HB4.out.size)
    clear b5 hc2 HWR
    go_wp2_with fail
    exact HT1.out _ HB5.out
  have hft := hfit.fit
  obtain ⟨S, rfl⟩ : ∃ S : Nat, s = (S : Int) := ⟨s.toNat, by have := hft.s1; omega⟩
  have hfm := setOf_formed hft
  have hsh := srcs_short L S L.length
  have hs2 := hft.s2
  have hs1 := hft.s1
  obtain ⟨R, hRR⟩ : ∃ R, R = srcsTo L (S : Int) L.length := ⟨_, rfl⟩
  obtain ⟨T, hT⟩ : ∃ T, T = setOf L (S : Int) := ⟨_, rfl⟩
  have HSM : Hid (R.map smOf = T.slices) := by show _ = _; rw [hRR, hT]; rfl
  have HTS : Hid (T.slice = (S : Int)) := by show _ = _; rw [hT]; rfl
  rw [← hRR] at hsh
  rw [← hT] at hfm
  have HMK : Hid (Calls Tryz.prog 8 #[.slice a L.length cap, .int .i64 (S : Int)] w2 fun e w' => Below w2.heap.size w2 w' ∧ ∃ fa fc sa sc ra rc, e = .returned (.tuple #[.agg (rowArr 3 (setV T fa fc sa sc)), .slice ra R.length rc, .int .i64 0]) ∧ SetAt w' T fa fc sa sc ∧ SrcAt w' ra rc R ∧ (sa = none → sc = 0)) := hmk.mono fun e w' ⟨hb, c, hc, h⟩ => by
    rcases h with ⟨h0, _⟩ | ⟨_, fa, fc, sa, sc, ra, rc, he, h1, h2, _, h3⟩
    · exact absurd (hc.one hfit) h0
    · exact ⟨hb, fa, fc, sa, sc, ra, rc, by rw [he, hRR, hT], hT ▸ h1, hRR ▸ h2, h3⟩
  have HFM := Lib.hid hfm
  have HSH := Lib.hid hsh
  have hN64 : R.length ≤ 64 := by have h1 := hfm.m1; have h2 := congrArg List.length HSM.out; rw [List.length_map] at h2; omega
  clear hmk hfit hft hRR hT hfm hsh
  go_upto_region 4 with (first
      | (go_at_call 8; (with_reducible refine HMK.out.mono ?_); rintro e w3 ⟨b3, fa, fc, sa, sc, ra, rc, rfl, hset, hsrc, hsn⟩; have HB3 := Lib.hid b3; have HSET := Lib.hid hset; have HSRC := Lib.hid hsrc; have HSN := Lib.hid hsn; obtain ⟨SV, hSV⟩ : ∃ SV, SV = rowArr 3 (setV T fa fc sa sc) := ⟨_, rfl⟩; have VS : Hid (rowArr 3 (setV T fa fc sa sc) = SV) := hSV.symm; have HSs : Hid (SV.size = 3) := (by show _ = _; rw [hSV, rowArr_size]); have HS1 : Hid (SV.all (·.oneCell') = true) := (by show _ = _; rw [hSV]; exact setArr_one17 _ _ _ _ _); rw [← hSV]; obtain ⟨N, hN⟩ : ∃ N, N = R.length := ⟨_, rfl⟩; have HN := Lib.hid hN; rw [← hN]; clear hN hSV b3 hset hsrc hsn HMK; have HALL : Hid (∀ c : Array Value, (w3.alloc (.cells c 29)).heap[w3.heap.size]? = some (.cells c 29 (0, 0))) := (fun c => heap_alloc_last w3 _); have HALB : Hid (∀ c : Array Value, Below w3.heap.size w3 (w3.alloc (.cells c 29))) := (fun c => (Below.refl _ _).alloc (Nat.le_refl _) _))
      | (refine wpList_store_arr rfl 29 _ _ rfl w3.heap.size SV rfl rfl 29 _ (HALL.out _) (by rw [HSs.out]; kernel_rfl) (by rw [HSs.out]; rfl) HS1.out ?_; intro w4 HC4 hf4; have HB34 : Hid (Below w3.heap.size w3 w4) := (HALB.out _).trans (hf4.out.below (HALB.out _).size (fun k hk e => by omega)); clear hf4 HALL HALB))
  obtain ⟨g7, hg7⟩ : ∃ g7, g7 = w3.heap.size := ⟨_, rfl⟩
  rw [← hg7] at HC4
  rw [← hg7]
  have HB4 : Hid (Below w.heap.size w w4) := (HB2.out.trans (HB3.out.mono HB2.out.size)).trans (HB34.out.mono (Nat.le_trans HB2.out.size HB3.out.size))
  have HSE4 := Lib.hid (HSET.out.below HB34.out)
  have HSR4 := Lib.hid (HSRC.out.below HB34.out)
  have hlg : g7 < w4.heap.size := (Array.getElem?_eq_some_iff.1 HC4.out).1
  have hnN : N ≤ 64 := by rw [HN.out]; exact hN64
  have hvm := HVC.out T fa fc sa sc ra rc R ka kc ks w4 HSE4.out HFM.out HSN.out HSR4.out.rs (fun x hx => by have := HSH.out x hx; omega) hN64 (HU.out.below HB4.out) (HM.out.below HB4.out) (HT.out.below HB4.out) (HFO.out.below HB4.out)
  rw [VS.out, ← HN.out] at hvm
  obtain ⟨l7, hl7⟩ : ∃ l7, l7 = (idxS T).length := ⟨_, rfl⟩
  have HL7 := Lib.hid hl7
  clear hl7
  have HIX : Hid (∀ w', Below w4.heap.size w4 w' → Calls Tryz.prog 11 #[.agg SV] w' fun e w'' => Below w'.heap.size w' w'' ∧ ∃ p q, e = .returned (.tuple #[.slice p l7 q, .int .i64 0]) ∧ Sl w'' p q (idxS T)) := fun w' h => by
    have := HIC.out T fa fc sa sc w' (HSE4.out.below h) HFM.out HSN.out ((HM.out.below HB4.out).below h) ((HT.out.below HB4.out).below h)
    rw [VS.out] at this
    rw [HL7.out]
    exact this
  have HRI : Hid (∀ w', Below w4.heap.size w4 w' → Calls Tryz.prog 12 #[.agg SV] w' fun e w'' => ∃ v, e = .returned v ∧ Acc w' w'' v (idxS T)) := fun w' h => by
    have := refIndex_any T fa fc sa sc w' (HSE4.out.below h) HFM.out
    rw [VS.out] at this
    exact this
  have HCS : Hid (∀ w', Below w4.heap.size w4 w' → w'.heap[g7]? = some (.cells SV 29 (0, 0))) := fun w' h => (h.block g7 hlg).trans HC4.out
  have HDI : Hid (DirIn T) := ⟨HSE4.out.slice, HSE4.out.files.rng, HSE4.out.slices.rng, HFM.out.s1, HFM.out.s2, HFM.out.m1, HFM.out.f2⟩
  have HXB : Hid (IsByte (idxS T)) := idxS_byte T HFM.out HDI.out
  have HXL : Hid ((idxS T).length ≤ 6000) := idxS_len HFM.out HDI.out
  clear hg7 HB34 HSET HSRC HC4 HVC HIC HM HT HFO HFI HS
  by_cases hbad : N = 0 ∨ 64 < ks.length
  case pos =>
    have HVM : Hid (Calls Tryz.prog 10 #[.agg SV, .slice ra N rc, .slice ka ks.length kc] w4 fun e w' => e = .returned (.tuple #[.slice none 0 0, .int .i64 5]) ∧ Below w4.heap.size w4 w') := hvm.mono fun e w' ⟨hb, h⟩ => by
      rcases h with ⟨h, _⟩ | ⟨_, _, h⟩ | ⟨_, h1, h2, _⟩
      · exact absurd HSM.out h
      · exact ⟨h, hb⟩
      · have := HN.out; omega
    clear hvm
    have HC4 := Lib.hid (HCS.out w4 (Below.refl _ _))
    go_upto_region 9 with (first
      | (refine wpList_load_row rfl 29 _ rfl g7 rfl 29 SV (0, 0) _ HC4.out Tryz.underlying29 rfl (by rw [HSs.out]; kernel_rfl) ?_)
      | (go_at_call 10; (with_reducible refine HVM.out.mono ?_); rintro e w5 ⟨rfl, b5⟩; have HB5 := Lib.hid b5; clear b5 HVM HC4; have HC5 := Lib.hid (HCS.out w5 HB5.out); have HI5 := Lib.hid (HIX.out w5 HB5.out))
      | (refine wpList_load_row rfl 29 _ rfl g7 rfl 29 SV (0, 0) _ HC5.out Tryz.underlying29 rfl (by rw [HSs.out]; kernel_rfl) ?_)
      | (go_at_call 11; (with_reducible refine HI5.out.mono ?_); rintro e w6 ⟨b6, p6, q6, rfl, hs6⟩; have HB6 : Hid (Below w4.heap.size w4 w6) := HB5.out.trans (b6.mono HB5.out.size); have HB56 := Lib.hid b6; have HS6 := Lib.hid hs6; clear b6 hs6 HI5 HC5; have HC6 := Lib.hid (HCS.out w6 HB6.out); have HR6 := Lib.hid (HRI.out w6 HB6.out))
      | (refine wpList_load_row rfl 29 _ rfl g7 rfl 29 SV (0, 0) _ HC6.out Tryz.underlying29 rfl (by rw [HSs.out]; kernel_rfl) ?_)
      | (go_at_call 12; (with_reducible refine HR6.out.mono ?_); rintro e w7 ⟨v7, rfl, ha7⟩; have HA7 := Lib.hid ha7; have HB7 : Hid (Below w4.heap.size w4 w7) := HB6.out.trans (ha7.below.mono HB6.out.size); clear ha7 HR6 HC6))
    obtain ⟨p7, q7, hv7, hs7, hp7⟩ := HA7.out.own.sl HXB.out
    have hc6 := conv_sl _ _ _ _ (HS6.out.below HA7.out.below)
    have hc7 := conv_sl _ _ _ _ hs7
    obtain ⟨B0, hB0⟩ : ∃ B0, B0 = strOf (idxS T) := ⟨_, rfl⟩
    rw [← HL7.out, ← hB0] at hc6 hc7
    rw [← HL7.out] at hv7
    subst hv7
    clear hB0 hp7
    have HBE : Hid (Below w.heap.size w w7) := HB4.out.trans (HB7.out.mono HB4.out.size)
    by_cases hN0 : N = 0
    · have d0 : (N : Int) = 0 := by omega
      go_wp2_with fail
      exact HT1.out _ HBE.out
    · have d0 : ¬ (N : Int) = 0 := by omega
      have d2 : (64 : Int) < (ks.length : Int) := by omega
      go_wp2_with fail
      exact HT1.out _ HBE.out
  obtain ⟨V, hVV⟩ : ∃ V, V = volS T R ks := ⟨_, rfl⟩
  have HVV := Lib.hid hVV
  clear hVV
  have HVM : Hid (Calls Tryz.prog 10 #[.agg SV, .slice ra N rc, .slice ka ks.length kc] w4 fun e w' => Below w4.heap.size w4 w' ∧ ∃ p q, e = .returned (.tuple #[.slice p V.length q, .int .i64 0]) ∧ Sl w' p q V) := hvm.mono fun e w' ⟨hb, h⟩ => by
    rcases h with ⟨h, _⟩ | ⟨_, h, _⟩ | ⟨_, _, _, h⟩
    · exact absurd HSM.out h
    · have := HN.out; omega
    · rw [HVV.out]; exact ⟨hb, h⟩
  clear hvm
  have HC4 := Lib.hid (HCS.out w4 (Below.refl _ _))
  go_upto_region 9 with (first
    | (refine wpList_load_row rfl 29 _ rfl g7 rfl 29 SV (0, 0) _ HC4.out Tryz.underlying29 rfl (by rw [HSs.out]; kernel_rfl) ?_)
    | (go_at_call 10; (with_reducible refine HVM.out.mono ?_); rintro e w5 ⟨b5, p5, q5, rfl, hs5⟩; have HS5 := Lib.hid hs5; clear hs5; have HB5 := Lib.hid b5; clear b5 HVM HC4; have HC5 := Lib.hid (HCS.out w5 HB5.out); have HI5 := Lib.hid (HIX.out w5 HB5.out))
    | (refine wpList_load_row rfl 29 _ rfl g7 rfl 29 SV (0, 0) _ HC5.out Tryz.underlying29 rfl (by rw [HSs.out]; kernel_rfl) ?_)
    | (go_at_call 11; (with_reducible refine HI5.out.mono ?_); rintro e w6 ⟨b6, p6, q6, rfl, hs6⟩; have HB6 : Hid (Below w4.heap.size w4 w6) := HB5.out.trans (b6.mono HB5.out.size); have HB56 := Lib.hid b6; have HS6 := Lib.hid hs6; clear b6 hs6 HI5 HC5; have HC6 := Lib.hid (HCS.out w6 HB6.out); have HR6 := Lib.hid (HRI.out w6 HB6.out))
    | (refine wpList_load_row rfl 29 _ rfl g7 rfl 29 SV (0, 0) _ HC6.out Tryz.underlying29 rfl (by rw [HSs.out]; kernel_rfl) ?_)
    | (go_at_call 12; (with_reducible refine HR6.out.mono ?_); rintro e w7 ⟨v7, rfl, ha7⟩; have HA7 := Lib.hid ha7; have HB7 : Hid (Below w4.heap.size w4 w7) := HB6.out.trans (ha7.below.mono HB6.out.size); clear ha7 HR6 HC6))
  obtain ⟨p7, q7, hv7, hs7, hp7⟩ := HA7.out.own.sl HXB.out
  have hc6 := conv_sl _ _ _ _ (HS6.out.below HA7.out.below)
  have hc7 := conv_sl _ _ _ _ hs7
  obtain ⟨B0, hB0⟩ : ∃ B0, B0 = strOf (idxS T) := ⟨_, rfl⟩
  rw [← HL7.out, ← hB0] at hc6 hc7
  rw [← HL7.out] at hv7
  subst hv7
  clear hB0 hp7
  have d0 : ¬ (N : Int) = 0 := by omega
  have d2 : ¬ (64 : Int) < (ks.length : Int) := by omega
  have HC7 := Lib.hid (HCS.out w7 HB7.out)
  obtain ⟨QA, hQA⟩ : ∃ QA, QA = rowArr 8 (vOf (nameS T)) := ⟨_, rfl⟩
  have VQ : Hid (rowArr 8 (vOf (nameS T)) = QA) := hQA.symm
  have HQs : Hid (QA.size = 8) := by show _ = _; rw [hQA, rowArr_size]
  have HQ1 : Hid (QA.all (·.oneCell') = true) := by show _ = _; rw [hQA]; exact oneCell_v _ 8
  have N8 : Hid ((nameS T).length = 8) := nameOf_len _
  have NB : Hid (IsByte (nameS T)) := nameOf_byte _
  have hnm := refName14_any T fa fc sa sc w7 (HSE4.out.below HB7.out) HFM.out
  rw [VS.out, ← hQA] at hnm
  have HNM := Lib.hid hnm
  clear hnm hQA hs7
  go_upto_region 15 with fail
  clear hc6 hc7
  go_upto_region 16 with (first
    | (refine wpList_load_row rfl 29 _ rfl g7 rfl 29 SV (0, 0) _ HC7.out Tryz.underlying29 rfl (by rw [HSs.out]; kernel_rfl) ?_)
    | (go_at_call 13; (with_reducible refine HNM.out.mono ?_); rintro e w8 ⟨rfl, b8⟩; have HB78 := Lib.hid b8; clear b8 HNM; have HALL : Hid (∀ c : Array Value, (w8.alloc (.cells c 40)).heap[w8.heap.size]? = some (.cells c 40 (0, 0))) := (fun c => heap_alloc_last w8 _); have HALB : Hid (∀ c : Array Value, Below w8.heap.size w8 (w8.alloc (.cells c 40))) := (fun c => (Below.refl _ _).alloc (Nat.le_refl _) _))
    | (refine wpList_store_arr rfl 40 _ _ rfl w8.heap.size QA rfl rfl 40 _ (HALL.out _) (by rw [HQs.out]; kernel_rfl) (by rw [HQs.out]; rfl) HQ1.out ?_; intro w9 HC9 hf9; have HB89 : Hid (Below w8.heap.size w8 w9) := (HALB.out _).trans (hf9.out.below (HALB.out _).size (fun k hk e => by omega)); clear hf9 HALL HALB))
  obtain ⟨g15, hg15⟩ : ∃ g15, g15 = w8.heap.size := ⟨_, rfl⟩
  rw [← hg15] at HC9
  rw [← hg15]
  have HB79 : Hid (Below w7.heap.size w7 w9) := HB78.out.trans (HB89.out.mono HB78.out.size)
  obtain ⟨F, hF⟩ : ∃ F : Nat → List Nat, F = fun j => volTo (nameS T) (dirTo T T.files.length) R S (ks.take j) := ⟨_, rfl⟩
  have HRB : Hid (∀ x ∈ R, IsByte x) := HSR4.out.rs.byte
  have hF0 : F 0 = idxS T := by rw [hF]; exact volTo_nil _ _ _ _
  have hFN : F ks.length = V := by rw [hF, HVV.out]; simp only [List.take_length]; unfold volS; rw [HTS.out]; rfl
  have HFX : Hid (∀ j, (h : j < ks.length) → F (j + 1) = F j ++ pktOf (nameS T) R S ks[j]) := fun j h => by rw [hF]; exact volTo_next _ _ _ _ h
  have HFL : Hid (∀ j, j ≤ ks.length → (F j).length ≤ 30000) := fun j hj => by
    rw [hF]
    have h1 := pkts_len N8.out HRB.out (m := S) (by omega) (ks.take j)
    have h2 := HXL.out
    unfold idxS at h2
    rw [List.length_take] at h1
    show (volTo _ _ _ _ _).length ≤ _
    unfold volTo
    rw [List.length_append]
    omega
  have HFB : Hid (∀ j, IsByte (F j)) := fun j x hx => by
    rw [hF] at hx
    rcases List.mem_append.1 (show x ∈ volTo _ _ _ _ _ from hx) with h | h
    · exact HXB.out x h
    · exact pkts_byte NB.out HRB.out _ x h
  have HF0 := Lib.hid hF0
  have HFE := Lib.hid hFN
  have hA9 : AccB w6 g15 QA w9 (.slice p7 l7 q7) (F 0) := by
    rw [HF0.out]
    refine ⟨HA7.out.later HB79.out, fun e => ?_, HC9⟩
    have h1 := HA7.out.own.lt17 _ e
    have h2 := HB78.out.size
    omega
  have HA9 := Lib.hid hA9
  have HS6w := HB6.out.size
  have HU6 := Lib.hid ((HU.out.below HB4.out).below HB6.out)
  have HSR6 := Lib.hid (HSR4.out.below HB6.out)
  have HBW6 : Hid (Below w.heap.size w w6) := HB4.out.trans (HB6.out.mono HB4.out.size)
  have HS56 := Lib.hid (HS5.out.below HB56.out)
  have HSL : Hid (∀ id : Nat, (idSym R S id).length = S ∧ IsByte (idSym R S id)) := fun id => idSym_ok S id HRB.out
  have HRW : Hid (∀ (w' : World) (id : Nat), id < 4294967296 → Calls Tryz.prog 15 #[.int .i64 (N : Int), .int .u32 (id : Int)] w' (RRowPost N (rowN R.length id) w')) := fun w' id hid => by
    have h := refRow_any R.length id (by have := HN.out; omega) (by have := HN.out; omega) hid w'
    rw [← HN.out] at h
    rw [← HN.out]
    exact h
  have HDS : Hid (∀ (w' : World) (id : Nat) (rg : Option Addr) (rq : Nat), Below w6.heap.size w6 w' → Sl w' rg rq (rowN R.length id) → Calls Tryz.prog 14 #[.slice ra N rc, .int .i64 (S : Int), .slice rg N rq] w' fun e w'' => ∃ g, e = .returned (.slice (some ⟨g, 0, none⟩) S S) ∧ Sl w'' (some ⟨g, 0, none⟩) S (idSym R S id) ∧ Below w'.heap.size w' w'') := fun w' id rg rq h hsl => by
    have hrl := (rowN_ok R.length id).1
    have h2 := symbol_any w'.heap.size ra rc R S rg rq (rowN R.length id) w' (Nat.le_refl _) (HSR6.out.below h).rs (by omega) hsl (by omega)
    rw [hrl, ← HN.out] at h2
    exact h2.mono fun e w'' ⟨g, he, hr, hb⟩ => ⟨g, he, by have := hr.sl; unfold idSym; rw [← HN.out] at this ⊢; exact this, hb⟩
  clear hg15 hF hF0 hFN HVV HC9 HB89 HB78 HA7 HC7 VS HSs HS1 HCS HIX HRI HSE4 HSR4 HFM HSN HSM HTS HXB HXL HDI HU
  go_wp2_with fail
  go_loopw [14, 92] (fun t i wr => ∃ j : Nat, j ≤ ks.length ∧ i = .int .i64 j ∧ Hid (AccB w6 g15 QA wr t (F j))) (fun _ i _ => ks.length - (intOf i).toNat)
  case atStart => exact ⟨0, by omega, rfl, HA9⟩
  case round =>
    obtain ⟨j, hj, rfl, HA⟩ := hrel
    clear HA9
    by_cases hlt : j < ks.length
    · obtain ⟨bk, ok, rfl, hbk, hck⟩ := HU6.out.some hlt
      have hid : ks[j] < 4294967296 := HU6.out.rng _ (List.getElem_mem hlt)
      have hnx := HFX.out j hlt
      have hFl := HFL.out j hj
      have hFl1 := HFL.out (j + 1) hlt
      rw [hnx, List.length_append] at hFl1
      obtain ⟨id, hide⟩ : ∃ id, ks[j] = id := ⟨_, rfl⟩
      rw [hide] at hck hid hnx hFl1
      have HNX := Lib.hid hnx
      have HFLX := Lib.hid hFl1
      have hcr := (HA.out.acc.below.cell (p := ⟨bk, ok + j, none⟩) hbk).trans hck
      have HCK := Lib.hid hck
      have HID := Lib.hid hid
      clear hnx hFl hFl1 hide hck
      go_upto_region 20 with (first
        | (go_at_call 15; (with_reducible refine (HRW.out _ id HID.out).mono ?_); rintro e wa ⟨ga, ca, rfl, hra, hba⟩; have HSa := Lib.hid hra; have HBa := Lib.hid hba; clear hra hba)
        | (go_at_call 14; (with_reducible refine (HDS.out wa id _ _ (HA.out.acc.below.trans (HBa.out.mono HA.out.acc.below.size)) HSa.out).mono ?_); rintro e wb ⟨gb, rfl, hrb, hbb⟩; have HSb := Lib.hid hrb; have HBb := Lib.hid hbb; clear hrb hbb HSa))
      obtain ⟨wd, hwd⟩ : ∃ wd, wd = wb.drew := ⟨_, rfl⟩
      have HBrb : Hid (Below wr.heap.size wr wb) := HBa.out.trans (HBb.out.mono HBa.out.size)
      have HAD : Hid (AccB w6 g15 QA wd u14 (F j)) := by rw [hwd]; exact (HA.out.later HBrb.out).later (Below.refl _ _).drew
      have hg15l : g15 < wd.heap.size := (Array.getElem?_eq_some_iff.1 HAD.out.box).1
      have k21 : Hid (∀ u : KeepW wd (fun b => u14.ownBlock = some b), ∀ i, i < 8 → u.v.cell? ⟨g15, 0 + i, none⟩ = some (vOf (nameS T) i)) := fun u i hi => by
        rw [u.cell hg15l HAD.out.ne, cell_of_block HAD.out.box, Nat.zero_add, ← VQ.out]
        simp [rowArr, hi]
      have hbkw : bk < wd.heap.size := Nat.lt_of_lt_of_le hbk HAD.out.acc.below.size
      have k30 : ∀ u : KeepW wd (fun b => u14.ownBlock = some b), u.v.cell? ⟨bk, ok + j, none⟩ = some (.int .u32 (id : Int)) := fun u => (u.cell hbkw (fun e => by have := HAD.out.acc.low bk e; omega)).trans ((HAD.out.acc.below.cell (p := ⟨bk, ok + j, none⟩) hbk).trans HCK.out)
      obtain ⟨d, hd⟩ : ∃ d, d = idSym R S id := ⟨_, rfl⟩
      have HDL : Hid (d.length = S) := by show _ = _; rw [hd]; exact (HSL.out id).1
      have HDB : Hid (IsByte d) := by rw [hd]; exact (HSL.out id).2
      have HSd : Hid (Sl wd (some ⟨gb, 0, none⟩) S d) := by rw [hd, hwd]; exact HSb.out.below (Below.refl _ _).drew
      have HYD : Hid (pktOf (nameS T) R S id = bytesN (nameS T) 4 (symbolN id d)) := by show _ = _; rw [hd]; rfl
      have HSY := Lib.hid (refSymbol_any id (some ⟨gb, 0, none⟩) S d wd HID.out HSd.out (by rw [HDL.out]; omega))
      rw [HDL.out] at HSY
      have i1 : (0 : Int) ≤ (j : Int) := by omega
      have i2 : (j : Int) < (ks.length : Int) := by omega
      clear hd hbkw hg15l HBrb HBb HBa HSb hcr
      refine growK_begin 10 (fun w' => ∃ u : KeepW wd (fun b => u14.ownBlock = some b), w' = u.v) (by kernel_rfl) ?_
      rw [← hwd]
      clear hwd
      refine growK_take (by kernel_rfl) [0, 1, 2, 3, 4, 5, 6] 4 _ _ (by kernel_rfl) _ (keep_class (Fr.refl _ _)) ?_
      simp only [opsAt, List.getElem?_toArray, List.getElem?_cons_succ, List.getElem?_cons_zero]
      repeat (first
        | (refine wpQuiet_load_v (by rfl) 40 _ rfl g15 0 8 _ QA VQ.out rfl _ (fun w hw j hj => by obtain ⟨u, rfl⟩ := hw; exact k21.out u j hj) Tryz.underlying40 rfl (by kernel_rfl) ?_)
        | go_big_quiet_step (fail) | quiet_step (fail))
      refine wpQuiet_nil ?_
      clear k21 k30
      refine growK_one 7 (by kernel_rfl) (fun K hK => ?_)
      simp only [stepOf, List.getElem?_toArray, List.getElem?_cons_succ, List.getElem?_cons_zero]
      go_simp
      go_at_call 17
      (with_reducible refine HSY.out.mono ?_)
      rintro e wx ⟨vx, rfl, hax⟩
      obtain ⟨Bd, hBd⟩ : ∃ Bd, Bd = symbolN id d := ⟨_, rfl⟩
      have HBdB : Hid (IsByte Bd) := fun x hx => by
        rw [hBd] at hx
        unfold symbolN at hx
        rcases List.mem_append.1 hx with h | h
        · exact wideN_byte _ _ x h
        · exact HDB.out x h
      have HBdL : Hid (Bd.length ≤ 20000) := by
        show _ ≤ _
        rw [hBd]; unfold symbolN; rw [List.length_append, wideN_len, HDL.out]; omega
      rw [← hBd] at hax HYD
      obtain ⟨px, qx, hvx, hsx, hpx⟩ := hax.own.sl HBdB.out
      obtain ⟨lx, hlx⟩ : ∃ lx, lx = Bd.length := ⟨_, rfl⟩
      have hrb := refBytes_any (nameS T) 4 px qx Bd wx N8.out NB.out ⟨by omega, by omega⟩ hsx HBdL.out
      rw [VQ.out, ← hlx] at hrb
      rw [← hlx] at hvx
      subst hvx
      have HRBY := Lib.hid hrb
      have HBx := Lib.hid hax.below
      have HAx := Lib.hid (HAD.out.later HBx.out)
      refine hK.out _ _ (keep_class (Fr.of_below HBx.out)) ?_
      clear hK K HSY hax hsx hpx hBd hlx hrb
      refine growK_one 8 (by kernel_rfl) (fun K hK => ?_)
      simp only [stepOf, List.getElem?_toArray, List.getElem?_cons_succ, List.getElem?_cons_zero]
      go_simp
      go_at_call 16
      (with_reducible refine HRBY.out.mono ?_)
      rintro e wy ⟨vy, rfl, hay⟩
      obtain ⟨Y, hY⟩ : ∃ Y, Y = bytesN (nameS T) 4 Bd := ⟨_, rfl⟩
      have HBY : Hid (IsByte Y) := by rw [hY]; exact bytesN_byte NB.out HBdB.out
      rw [← hY] at hay HYD
      obtain ⟨py, qy, hvy, hsy, hpy⟩ := hay.own.sl HBY.out
      rw [HYD.out] at HNX HFLX
      obtain ⟨ly, hly⟩ : ∃ ly, ly = Y.length := ⟨_, rfl⟩
      rw [← hly] at hvy
      subst hvy
      have HLY := Lib.hid hly
      have HSYy := Lib.hid hsy
      have HBy := Lib.hid hay.below
      have HBdy : Hid (Below wd.heap.size wd wy) := HBx.out.trans (HBy.out.mono HBx.out.size)
      have HAy := Lib.hid (HAx.out.later HBy.out)
      refine hK.out _ _ (keep_class (Fr.of_below HBdy.out)) ?_
      clear hK K HRBY hay hsy hpy hY hly HAx
      refine growK_one 9 (by kernel_rfl) (fun K hK => ?_)
      simp only [stepOf, List.getElem?_toArray, List.getElem?_cons_succ, List.getElem?_cons_zero]
      rw [if_pos (by rfl)]
      refine wp_addB _ (.tmp 105) (.tmp 113) rfl u14 (F j) rfl HAy.out.acc.own py qy ly Y rfl HLY.out.symm HSYy.out (by have := HFLX.out; omega) ?_
      intro v7 w7' o7 g7' e7
      have F7 : Hid (Fr (fun b => u14.ownBlock = some b) wd w7') := (Fr.of_below HBdy.out).trans (Fr.of_grown g7'.out fun b e => e)
      have HAN := Lib.hid (HAy.out.add o7.out g7'.out e7.out)
      refine hK.out _ _ (keep_class F7.out) ?_
      clear hK K o7 g7' e7 HAy
      rw [← HNX.out] at HAN
      refine growK_last (by kernel_rfl) (by kernel_rfl) (fun K hK => ?_)
      simp only [stepOf, List.getElem?_toArray, List.getElem?_cons_succ, List.getElem?_cons_zero]
      go_simp
      refine hK.out _ _ ?_
      clear hK K F7
      go_wp2_with fail
      go_roundw
      case rel => exact ⟨j + 1, by omega, by go_num, HAN⟩
      case measure => simp [intOf]; omega
    · obtain rfl : j = ks.length := by omega
      rw [HFE.out] at HA
      have HBE : Hid (Below w.heap.size w wr) := HBW6.out.trans (HA.out.acc.below.mono HBW6.out.size)
      have hcb := conv_sl _ _ _ _ (HS56.out.below HA.out.acc.below)
      have HVB : Hid (IsByte V) := by rw [← HFE.out]; exact HFB.out _
      obtain ⟨pz, qz, hvz, hsz, hpz⟩ := HA.out.acc.own.sl HVB.out
      have hcz := conv_sl _ _ _ _ hsz
      obtain ⟨B1, hB1⟩ : ∃ B1, B1 = strOf V := ⟨_, rfl⟩
      rw [← hB1] at hcb hcz
      subst hvz
      clear hB1 hpz hsz
      go_wp2_with fail
      exact HT1.out _ HBE.out
end Go.Proofs.YtcopjbapglndgaaGreatDoor
