/-
  VolumeParts, walked out of the contracts.
-/
import Derived.Test.YtcopjbapglndgaaGreatDoorMr26
namespace Go.Proofs.YtcopjbapglndgaaGreatDoor
open Go.ChangeShapes Go.WideShapes Go.ChangeAt Go.RowKit Go.Joins
set_option linter.unusedVariables false

set_option maxRecDepth 1000000 in
set_option maxHeartbeats 32000000 in
theorem volumeParts_walk (hV : VMakeC) (hI : VIdxC) (hR : VRangeC) (a : Option Addr) (cap : Nat) (L : List Inp) (s : Int) (ka : Option Addr) (kc : Nat) (ks : List Nat) (la : Option Addr) (lc : Nat) (ls : List Nat) (w : World) (hs : Inps w a cap L) (hz : i64R s) (hk : Us w ka kc ks) (hl : Us w la lc ls) (hq : ks.length + ls.length ≤ 1000000000000000000) (hm : Mx w) (ht : Tabs w) (hF : Fours w) :
    Calls Tryz.prog 4 #[.slice a L.length cap, .int .i64 s, .slice ka ks.length kc, .slice la ls.length lc] w (TrueAnd w) := by
  have mixed : Tryz.prog.follows .mixedOrders = true := by kernel_rfl
  obtain ⟨PQ, hPQ⟩ : ∃ PQ, PQ = TrueAnd w := ⟨_, rfl⟩
  have HT1 : Hid (∀ w', Below w.heap.size w w' → PQ (.returned (.bool true)) w') := by
    show ∀ _, _
    rw [hPQ]; exact fun w' h => ⟨rfl, h⟩
  rw [← hPQ]
  have HAW : Hid (∀ w, Calls Tryz.prog 6 #[] w (TrueAnd w)) := awake17_any hR
  have HFC : Hid (∀ w', Below w.heap.size w w' → Calls Tryz.prog 7 #[.slice a L.length cap] w' fun e w'' => ∃ r : Bool, (e = .returned (.bool r) ∧ Below w'.heap.size w' w'') ∧ (r = true ↔ FewI L)) := fun w' h => few16_any a cap L w' (hs.below h)
  have HS := Lib.hid hs
  have HM := Lib.hid hm
  have HT := Lib.hid ht
  have HFO := Lib.hid hF
  have HU := Lib.hid hk
  have HU2 := Lib.hid hl
  have hlu := hl.lt
  have hq2 : (ks.length : Int) + (ls.length : Int) ≤ 9223372036854775807 := by omega
  have hlm := hs.lt
  have hku := hk.lt
  have HZ := Lib.hid hz
  have HVC := Lib.hid hV
  have HIC := Lib.hid hI
  obtain ⟨hz1, hz2⟩ := hz
  clear hPQ hs hm ht hF hk hl hV hI hR
  by_cases hf : FewI L
  case neg =>
    have HFW : Hid (∀ w', Below w.heap.size w w' → Calls Tryz.prog 7 #[.slice a L.length cap] w' fun e w'' => e = .returned (.bool false) ∧ Below w'.heap.size w' w'') := fun w' h => (HFC.out w' h).mono fun e w' ⟨r, ⟨he, hb⟩, hr⟩ => ⟨by rw [he, Bool.eq_false_iff.2 fun h => hf (hr.1 h)], hb⟩
    clear HFC hf
    go_enter Tryz.func4, Tryz.ntmps4
    go_wp2_with fail
    (with_reducible refine (HAW.out _).mono ?_)
    rintro e w1 ⟨rfl, b1⟩
    have HB1 := Lib.hid b1
    clear b1
    go_wp2_with fail
    (with_reducible refine (HFW.out w1 HB1.out).mono ?_)
    rintro e w2 ⟨rfl, b2⟩
    have HB2 : Hid (Below w.heap.size w w2) := HB1.out.trans (b2.mono HB1.out.size)
    clear b2
    go_wp2_with fail
    (with_reducible refine (HAW.out _).mono ?_)
    rintro e w3 ⟨rfl, b3⟩
    have HB3 : Hid (Below w.heap.size w w3) := HB2.out.trans (b3.mono HB2.out.size)
    clear b3
    go_wp2_with fail
    exact HT1.out _ HB3.out
  have HFW : Hid (∀ w', Below w.heap.size w w' → Calls Tryz.prog 7 #[.slice a L.length cap] w' fun e w'' => e = .returned (.bool true) ∧ Below w'.heap.size w' w'') := fun w' h => (HFC.out w' h).mono fun e w' ⟨r, ⟨he, hb⟩, hr⟩ => ⟨by rw [he, hr.2 hf], hb⟩
  have HFI := Lib.hid hf
  have hll := hf.len
  clear HFC hf
  by_cases hk70 : 64 < ks.length + ls.length
  · have d1 : (64 : Int) < (ks.length : Int) + (ls.length : Int) := by omega
    go_enter Tryz.func4, Tryz.ntmps4
    go_wp2_with fail
    (with_reducible refine (HAW.out _).mono ?_)
    rintro e w1 ⟨rfl, b1⟩
    have HB1 := Lib.hid b1
    clear b1
    go_wp2_with fail
    (with_reducible refine (HFW.out w1 HB1.out).mono ?_)
    rintro e w2 ⟨rfl, b2⟩
    have HB2 : Hid (Below w.heap.size w w2) := HB1.out.trans (b2.mono HB1.out.size)
    clear b2
    go_wp2_with fail
    (with_reducible refine (HAW.out _).mono ?_)
    rintro e w3 ⟨rfl, b3⟩
    have HB3 : Hid (Below w.heap.size w w3) := HB2.out.trans (b3.mono HB2.out.size)
    clear b3
    go_wp2_with fail
    exact HT1.out _ HB3.out
  have d1 : ¬ (64 : Int) < (ks.length : Int) + (ls.length : Int) := by omega
  go_enter Tryz.func4, Tryz.ntmps4
  go_wp2_with fail
  (with_reducible refine (HAW.out _).mono ?_)
  rintro e w1 ⟨rfl, b1⟩
  have HB1 := Lib.hid b1
  clear b1 HAW
  go_wp2_with fail
  (with_reducible refine (HFW.out w1 HB1.out).mono ?_)
  rintro e w2 ⟨rfl, b2⟩
  have HB2 : Hid (Below w.heap.size w w2) := HB1.out.trans (b2.mono HB1.out.size)
  clear b2 HFW HB1
  go_upto_region 3 with fail
  clear d1
  have hmk := make_all a cap L s w2 (HS.out.below HB2.out) HFI.out HZ.out (HM.out.below HB2.out) (HT.out.below HB2.out) (HFO.out.below HB2.out)
  by_cases hfit : CodeIs L s 0
  case neg =>
    obtain ⟨ZA, hZA⟩ : ∃ ZA, ZA = zSetA := ⟨_, rfl⟩
    have HMK : Hid (Calls Tryz.prog 8 #[.slice a L.length cap, .int .i64 s] w2 fun e w' => Below w2.heap.size w2 w' ∧ ∃ c, CodeIs L s c ∧ c ≠ 0 ∧ e = .returned (.tuple #[.agg ZA, .slice none 0 0, .int .i64 c])) := hmk.mono fun e w' ⟨hb, c, hc, h⟩ => by
      rcases h with ⟨h0, he⟩ | ⟨h0, _⟩
      · exact ⟨hb, c, hc, h0, by rw [he, hZA]⟩
      · exact absurd (h0 ▸ hc) hfit
    have HZs : Hid (ZA.size = 3) := by show _ = _; rw [hZA]; rfl
    have HZ1 : Hid (ZA.all (·.oneCell') = true) := by show _ = _; rw [hZA]; kernel_rfl
    clear hmk hfit hZA
    go_upto_region 4 with (first
      | (go_at_call 8; (with_reducible refine HMK.out.mono ?_); rintro e w3 ⟨b3, c, hc, hc0, rfl⟩; have HB3 := Lib.hid b3; have HC := Lib.hid hc; have HC0 := Lib.hid hc0; clear b3 hc hc0 HMK; have HALL : Hid (∀ c : Array Value, (w3.alloc (.cells c 29)).heap[w3.heap.size]? = some (.cells c 29 (0, 0))) := (fun c => heap_alloc_last w3 _); have HALB : Hid (∀ c : Array Value, Below w3.heap.size w3 (w3.alloc (.cells c 29))) := (fun c => (Below.refl _ _).alloc (Nat.le_refl _) _))
      | (refine wpList_store_arr rfl 29 _ _ rfl w3.heap.size ZA rfl rfl 29 _ (HALL.out _) (by rw [HZs.out]; kernel_rfl) (by rw [HZs.out]; rfl) HZ1.out ?_; intro w4 HC4 hf4; have HB34 : Hid (Below w3.heap.size w3 w4) := (HALB.out _).trans (hf4.out.below (HALB.out _).size (fun k hk e => by omega)); clear hf4 HALL HALB))
    have HB4 : Hid (Below w.heap.size w w4) := (HB2.out.trans (HB3.out.mono HB2.out.size)).trans (HB34.out.mono (Nat.le_trans HB2.out.size HB3.out.size))
    have d1 : (c == 0) = false := beq_false_of_ne HC0.out
    have d2 : (c != 0) = true := by simp [HC0.out]
    have d3 : ¬ c = 0 := HC0.out
    clear HB34 HC4
    go_wp2_with fail
    exact HT1.out _ HB4.out
  have hft := hfit.fit
  obtain ⟨S, rfl⟩ : ∃ S : Nat, s = (S : Int) := ⟨s.toNat, by have := hft.s1; omega⟩
  have hfm := setOf_formed hft
  have hsh := srcs_short L S L.length
  have hs2 := hft.s2
  have hs1 := hft.s1
  obtain ⟨R, hRR⟩ : ∃ R, R = srcsTo L (S : Int) L.length := ⟨_, rfl⟩
  obtain ⟨T, hT⟩ : ∃ T, T = setOf L (S : Int) := ⟨_, rfl⟩
  have HSM : Hid (R.map smOf = T.slices) := by show _ = _; rw [hRR, hT]; rfl
  have HTS : Hid (T.slice = (S : Int)) := by show _ = _; rw [hT]; rfl
  rw [← hRR] at hsh
  rw [← hT] at hfm
  have HMK : Hid (Calls Tryz.prog 8 #[.slice a L.length cap, .int .i64 (S : Int)] w2 fun e w' => Below w2.heap.size w2 w' ∧ ∃ fa fc sa sc ra rc, e = .returned (.tuple #[.agg (rowArr 3 (setV T fa fc sa sc)), .slice ra R.length rc, .int .i64 0]) ∧ SetAt w' T fa fc sa sc ∧ SrcAt w' ra rc R ∧ (sa = none → sc = 0)) := hmk.mono fun e w' ⟨hb, c, hc, h⟩ => by
    rcases h with ⟨h0, _⟩ | ⟨_, fa, fc, sa, sc, ra, rc, he, h1, h2, _, h3⟩
    · exact absurd (hc.one hfit) h0
    · exact ⟨hb, fa, fc, sa, sc, ra, rc, by rw [he, hRR, hT], hT ▸ h1, hRR ▸ h2, h3⟩
  have HFM := Lib.hid hfm
  have HSH := Lib.hid hsh
  have hN64 : R.length ≤ 64 := by have h1 := hfm.m1; have h2 := congrArg List.length HSM.out; rw [List.length_map] at h2; omega
  clear hmk hfit hft hRR hT hfm hsh
  go_upto_region 4 with (first
      | (go_at_call 8; (with_reducible refine HMK.out.mono ?_); rintro e w3 ⟨b3, fa, fc, sa, sc, ra, rc, rfl, hset, hsrc, hsn⟩; have HB3 := Lib.hid b3; have HSET := Lib.hid hset; have HSRC := Lib.hid hsrc; have HSN := Lib.hid hsn; obtain ⟨SV, hSV⟩ : ∃ SV, SV = rowArr 3 (setV T fa fc sa sc) := ⟨_, rfl⟩; have VS : Hid (rowArr 3 (setV T fa fc sa sc) = SV) := hSV.symm; have HSs : Hid (SV.size = 3) := (by show _ = _; rw [hSV, rowArr_size]); have HS1 : Hid (SV.all (·.oneCell') = true) := (by show _ = _; rw [hSV]; exact setArr_one17 _ _ _ _ _); rw [← hSV]; obtain ⟨N, hN⟩ : ∃ N, N = R.length := ⟨_, rfl⟩; have HN := Lib.hid hN; rw [← hN]; clear hN hSV b3 hset hsrc hsn HMK; have HALL : Hid (∀ c : Array Value, (w3.alloc (.cells c 29)).heap[w3.heap.size]? = some (.cells c 29 (0, 0))) := (fun c => heap_alloc_last w3 _); have HALB : Hid (∀ c : Array Value, Below w3.heap.size w3 (w3.alloc (.cells c 29))) := (fun c => (Below.refl _ _).alloc (Nat.le_refl _) _))
      | (refine wpList_store_arr rfl 29 _ _ rfl w3.heap.size SV rfl rfl 29 _ (HALL.out _) (by rw [HSs.out]; kernel_rfl) (by rw [HSs.out]; rfl) HS1.out ?_; intro w4 HC4 hf4; have HB34 : Hid (Below w3.heap.size w3 w4) := (HALB.out _).trans (hf4.out.below (HALB.out _).size (fun k hk e => by omega)); clear hf4 HALL HALB))
  obtain ⟨g7, hg7⟩ : ∃ g7, g7 = w3.heap.size := ⟨_, rfl⟩
  rw [← hg7] at HC4
  rw [← hg7]
  have HB4 : Hid (Below w.heap.size w w4) := (HB2.out.trans (HB3.out.mono HB2.out.size)).trans (HB34.out.mono (Nat.le_trans HB2.out.size HB3.out.size))
  have HSE4 := Lib.hid (HSET.out.below HB34.out)
  have HSR4 := Lib.hid (HSRC.out.below HB34.out)
  have hlg : g7 < w4.heap.size := (Array.getElem?_eq_some_iff.1 HC4.out).1
  have hnN : N ≤ 64 := by rw [HN.out]; exact hN64
  have HVM : Hid (N ≠ 0 → ∀ (w' : World) (xa : Option Addr) (xc : Nat) (xs : List Nat), Below w4.heap.size w4 w' → Us w' xa xc xs → xs.length ≤ 64 → Calls Tryz.prog 10 #[.agg SV, .slice ra N rc, .slice xa xs.length xc] w' fun e w'' => Below w'.heap.size w' w'' ∧ ∃ p q, e = .returned (.tuple #[.slice p (volS T R xs).length q, .int .i64 0]) ∧ Sl w'' p q (volS T R xs)) := fun h0 w' xa xc xs h hx h64 => by
    have hvm := HVC.out T fa fc sa sc ra rc R xa xc xs w' (HSE4.out.below h) HFM.out HSN.out (HSR4.out.below h).rs (fun x hx => by have := HSH.out x hx; omega) hN64 hx ((HM.out.below HB4.out).below h) ((HT.out.below HB4.out).below h) ((HFO.out.below HB4.out).below h)
    rw [VS.out, ← HN.out] at hvm
    refine hvm.mono fun e w'' ⟨hb, h⟩ => ?_
    rcases h with ⟨h, _⟩ | ⟨_, h, _⟩ | ⟨_, _, _, h⟩
    · exact absurd HSM.out h
    · have := HN.out; omega
    · exact ⟨hb, h⟩
  obtain ⟨l7, hl7⟩ : ∃ l7, l7 = (idxS T).length := ⟨_, rfl⟩
  have HL7 := Lib.hid hl7
  clear hl7
  have HRI : Hid (∀ w', Below w4.heap.size w4 w' → Calls Tryz.prog 12 #[.agg SV] w' fun e w'' => Below w'.heap.size w' w'' ∧ ∃ p q, e = .returned (.slice p l7 q)) := fun w' h => by
    have := refIndex_any T fa fc sa sc w' (HSE4.out.below h) HFM.out
    rw [VS.out] at this
    refine this.mono fun e w'' ⟨v, he, ha⟩ => ⟨ha.below, ?_⟩
    obtain ⟨p, q, hv, _⟩ := (show Acc w' w'' v (idxS T) from ha).own.sl (idxS_byte T HFM.out ⟨HSE4.out.slice, HSE4.out.files.rng, HSE4.out.slices.rng, HFM.out.s1, HFM.out.s2, HFM.out.m1, HFM.out.f2⟩)
    rw [HL7.out]
    exact ⟨p, q, by rw [he, hv]⟩
  have HCS : Hid (∀ w', Below w4.heap.size w4 w' → w'.heap[g7]? = some (.cells SV 29 (0, 0))) := fun w' h => (h.block g7 hlg).trans HC4.out
  have HDI : Hid (DirIn T) := ⟨HSE4.out.slice, HSE4.out.files.rng, HSE4.out.slices.rng, HFM.out.s1, HFM.out.s2, HFM.out.m1, HFM.out.f2⟩
  have HXB : Hid (IsByte (idxS T)) := idxS_byte T HFM.out HDI.out
  have HXL : Hid ((idxS T).length ≤ 6000) := idxS_len HFM.out HDI.out
  clear hg7 HB34 HSET HSRC HC4 HVC HIC HM HT HFO HFI HS
  by_cases hN0 : N = 0
  · have d0 : (N : Int) = 0 := by omega
    go_wp2_with fail
    exact HT1.out _ HB4.out
  have d0 : ¬ (N : Int) = 0 := by omega
  have HVN := Lib.hid (HVM.out hN0)
  clear HVM
  have HC4 := Lib.hid (HCS.out w4 (Below.refl _ _))
  have HR4 := Lib.hid (HRI.out w4 (Below.refl _ _))
  obtain ⟨n1, hn1⟩ : ∃ n1, n1 = (volS T R ks).length := ⟨_, rfl⟩
  obtain ⟨n2, hn2⟩ : ∃ n2, n2 = (volS T R ls).length := ⟨_, rfl⟩
  have HN1 := Lib.hid hn1
  have HN2 := Lib.hid hn2
  have HV1 : Hid (∀ w', Below w4.heap.size w4 w' → Calls Tryz.prog 10 #[.agg SV, .slice ra N rc, .slice ka ks.length kc] w' fun e w'' => Below w'.heap.size w' w'' ∧ ∃ p q, e = .returned (.tuple #[.slice p n1 q, .int .i64 0]) ∧ Sl w'' p q (volS T R ks)) := fun w' h => by
    rw [HN1.out]; exact HVN.out w' ka kc ks h ((HU.out.below HB4.out).below h) (by omega)
  have HV2 : Hid (∀ w', Below w4.heap.size w4 w' → Calls Tryz.prog 10 #[.agg SV, .slice ra N rc, .slice la ls.length lc] w' fun e w'' => Below w'.heap.size w' w'' ∧ ∃ p q, e = .returned (.tuple #[.slice p n2 q, .int .i64 0]) ∧ Sl w'' p q (volS T R ls)) := fun w' h => by
    rw [HN2.out]; exact HVN.out w' la lc ls h ((HU2.out.below HB4.out).below h) (by omega)
  clear hn1 hn2
  go_upto_region 9 with (first
    | (refine wpList_load_row rfl 29 _ rfl g7 rfl 29 SV (0, 0) _ HC4.out Tryz.underlying29 rfl (by rw [HSs.out]; kernel_rfl) ?_)
    | (go_at_call 12; (with_reducible refine HR4.out.mono ?_); rintro e w5 ⟨b5, p5, q5, rfl⟩; have HB5 := Lib.hid b5; clear b5 HR4 HC4; have HC5 := Lib.hid (HCS.out w5 HB5.out); have HM5 := Lib.hid (HV1.out w5 HB5.out))
    | (refine wpList_load_row rfl 29 _ rfl g7 rfl 29 SV (0, 0) _ HC5.out Tryz.underlying29 rfl (by rw [HSs.out]; kernel_rfl) ?_)
    | (go_at_call 10; (with_reducible refine HM5.out.mono ?_); rintro e w6 ⟨b6, p6, q6, rfl, hs6⟩; have HB6 : Hid (Below w4.heap.size w4 w6) := HB5.out.trans (b6.mono HB5.out.size); have HS6 := Lib.hid hs6; clear b6 hs6 HM5 HC5; have HC6 := Lib.hid (HCS.out w6 HB6.out); have HM6 := Lib.hid (HV2.out w6 HB6.out))
    | (refine wpList_load_row rfl 29 _ rfl g7 rfl 29 SV (0, 0) _ HC6.out Tryz.underlying29 rfl (by rw [HSs.out]; kernel_rfl) ?_)
    | (go_at_call 10; (with_reducible refine HM6.out.mono ?_); rintro e w7 ⟨b7, p7, q7, rfl, hs7⟩; have HB7 : Hid (Below w4.heap.size w4 w7) := HB6.out.trans (b7.mono HB6.out.size); have HB67 := Lib.hid b7; have HS7 := Lib.hid hs7; clear b7 hs7 HM6 HC6; have HC7 := Lib.hid (HCS.out w7 HB7.out)))
  have HS67 := Lib.hid (HS6.out.below HB67.out)
  clear HV1 HV2 HS6 HB67 HB5 HB6 HRI
  have hs64 : ks.length + ls.length ≤ 64 := by omega
  have HL3 : Hid (∀ x ∈ ([] ++ ks) ++ ls, x < 4294967296) := fun x hx => by
    rcases List.mem_append.1 hx with h | h
    · exact HU.out.rng x (by simpa using h)
    · exact HU2.out.rng x h
  obtain ⟨wd, hwd⟩ : ∃ wd, wd = w7.drew := ⟨_, rfl⟩
  have HB7d : Hid (Below w7.heap.size w7 wd) := by rw [hwd]; exact (Below.refl _ _).drew
  have HBd : Hid (Below w4.heap.size w4 wd) := HB7.out.trans (HB7d.out.mono HB7.out.size)
  have HCd := Lib.hid (HCS.out wd HBd.out)
  have k7 : Hid (∀ u : KeepW wd (fun b => False), ∀ i, i < 3 → u.v.cell? ⟨g7, 0 + i, none⟩ = some (setV T fa fc sa sc i)) := fun u i hi => by
    rw [u.cell (Array.getElem?_eq_some_iff.1 HCd.out).1 (fun h => h), cell_of_block HCd.out, Nat.zero_add, ← VS.out]
    simp [rowArr, hi]
  have HUd := Lib.hid ((HU.out.below HB4.out).below HBd.out)
  have HU2d := Lib.hid ((HU2.out.below HB4.out).below HBd.out)
  refine growK_begin 12 (fun w' => ∃ u : KeepW wd (fun b => False), w' = u.v) (by kernel_rfl) ?_
  rw [← hwd]
  clear hwd
  refine growK_take (by kernel_rfl) [0, 1, 3, 5] 9 _ _ (by kernel_rfl) _ (keep_class (Fr.refl _ _)) ?_
  simp only [opsAt, List.getElem?_toArray, List.getElem?_cons_succ, List.getElem?_cons_zero]
  repeat (first
    | (refine wpQuiet_load_v (by rfl) 29 _ rfl g7 0 3 _ SV VS.out rfl _ (fun w hw j hj => by obtain ⟨u, rfl⟩ := hw; exact k7.out u j hj) Tryz.underlying29 rfl (by kernel_rfl) ?_)
    | go_big_quiet_step (fail) | quiet_step (fail))
  refine wpQuiet_nil ?_
  clear k7
  refine growK_one 2 (by kernel_rfl) (fun K hK => ?_)
  simp only [stepOf, List.getElem?_toArray, List.getElem?_cons_succ, List.getElem?_cons_zero]
  rw [if_pos (by rfl)]
  refine op_emptyU rfl ?_
  have HBA : Hid (Below wd.heap.size wd (wd.alloc (.cells #[] 44))) := (Below.refl _ _).alloc (Nat.le_refl _) _
  have HOA := Lib.hid (OwnU.empty wd)
  generalize wd.alloc (.cells #[] 44) = wA at *
  obtain ⟨v0, hv0⟩ : ∃ v0, v0 = Value.slice (some ⟨wd.heap.size, 0, none⟩) 0 0 := ⟨_, rfl⟩
  have HLO0 : Hid (∀ k, v0.ownBlock = some k → wd.heap.size ≤ k) := fun k hk => by
    rw [hv0] at hk
    have : some wd.heap.size = some k := hk
    cases this
    exact Nat.le_refl _
  rw [← hv0] at HOA ⊢
  clear hv0
  refine hK.out _ _ (keep_class (Fr.of_below HBA.out)) ?_
  clear hK K
  refine growK_one 4 (by kernel_rfl) (fun K hK => ?_)
  simp only [stepOf, List.getElem?_toArray, List.getElem?_cons_succ, List.getElem?_cons_zero]
  rw [if_pos (by rfl)]
  refine wp_addU _ (.tmp 69) (.tmp 70) rfl v0 [] rfl HOA.out ka kc ks.length ks rfl rfl (HUd.out.below HBA.out) (by simp only [List.length_nil]; omega) ?_
  intro v1 wB o1 g1 e1
  have HBB : Hid (Below wd.heap.size wd wB) := HBA.out.grown g1.out HBA.out.size HLO0.out
  have HLO1 : Hid (∀ k, v1.ownBlock = some k → wd.heap.size ≤ k) := fun k hk => by
    rcases e1.out with h | h
    · exact HLO0.out k (by rw [← h]; exact hk)
    · rw [h] at hk
      cases hk
      exact HBA.out.size
  refine hK.out _ _ (keep_class (Fr.of_below HBB.out)) ?_
  clear hK K g1 e1 HOA HLO0
  refine growK_one 6 (by kernel_rfl) (fun K hK => ?_)
  simp only [stepOf, List.getElem?_toArray, List.getElem?_cons_succ, List.getElem?_cons_zero]
  rw [if_pos (by rfl)]
  refine wp_addU _ (.tmp 71) (.tmp 72) rfl v1 ([] ++ ks) rfl o1.out la lc ls.length ls rfl rfl (HU2d.out.below HBB.out) (by rw [List.nil_append]; omega) ?_
  intro v2 wC o2 g2 e2
  have HBC : Hid (Below wd.heap.size wd wC) := HBB.out.grown g2.out HBB.out.size HLO1.out
  obtain ⟨xa, xc, hv2, hu2⟩ := o2.out.us HL3.out
  obtain ⟨xl, hxl⟩ : ∃ xl, xl = (([] ++ ks) ++ ls).length := ⟨_, rfl⟩
  obtain ⟨n3, hn3⟩ : ∃ n3, n3 = (volS T R (([] ++ ks) ++ ls)).length := ⟨_, rfl⟩
  have HBC4 : Hid (Below w4.heap.size w4 wC) := HBd.out.trans (HBC.out.mono HBd.out.size)
  have hmz := HVN.out wC xa xc (([] ++ ks) ++ ls) HBC4.out hu2 (by simp only [List.nil_append, List.length_append]; omega)
  rw [← hxl, ← hn3] at hmz
  rw [← hxl] at hv2
  subst hv2
  have HMZ := Lib.hid hmz
  have HN3 := Lib.hid hn3
  refine hK.out _ _ (keep_class (Fr.of_below HBC.out)) ?_
  clear hK K g2 e2 o1 o2 HLO1 hmz hu2 hxl hn3
  refine growK_one 7 (by kernel_rfl) (fun K hK => ?_)
  simp only [stepOf, List.getElem?_toArray, List.getElem?_cons_succ, List.getElem?_cons_zero]
  go_simp
  go_at_call 10
  (with_reducible refine HMZ.out.mono ?_)
  rintro e w8 ⟨b8, p8, q8, rfl, hs8⟩
  have HS8 := Lib.hid hs8
  have HBd8 : Hid (Below wd.heap.size wd w8) := HBC.out.trans (b8.mono HBC.out.size)
  refine hK.out _ _ (keep_class (Fr.of_below HBd8.out)) ?_
  clear hK K b8 hs8 HMZ
  refine growK_take (by kernel_rfl) [8, 9, 10, 11] 1 _ _ (by kernel_rfl) _ (keep_class (Fr.of_below HBd8.out)) ?_
  simp only [opsAt, List.getElem?_toArray, List.getElem?_cons_succ, List.getElem?_cons_zero]
  repeat (first | go_big_quiet_step (fail) | quiet_step (fail))
  refine wpQuiet_nil ?_
  refine growK_last (by kernel_rfl) (by kernel_rfl) (fun K hK => ?_)
  simp only [stepOf, List.getElem?_toArray, List.getElem?_cons_succ, List.getElem?_cons_zero]
  go_simp
  refine hK.out _ _ ?_
  clear hK K
  have HB8 : Hid (Below w7.heap.size w7 w8) := HB7d.out.trans (HBd8.out.mono HB7d.out.size)
  have HBE : Hid (Below w.heap.size w w8) := HB4.out.trans ((HB7.out.trans (HB8.out.mono HB7.out.size)).mono HB4.out.size)
  obtain ⟨P, hP⟩ : ∃ P, P = (ls.map (pktOf (nameS T) R T.slice.toNat)).flatten := ⟨_, rfl⟩
  have hV3 : volS T R (([] ++ ks) ++ ls) = volS T R ks ++ P := by rw [List.nil_append, hP]; exact volTo_app _ _ _ _ _ _
  have hV2 : volS T R ls = idxS T ++ P := by rw [hP]; rfl
  have hle : l7 ≤ n2 := by rw [HL7.out, HN2.out, hV2, List.length_append]; omega
  have hPl : P.length = n2 - l7 := by rw [HL7.out, HN2.out, hV2, List.length_append]; omega
  obtain ⟨a2, hr2, hs2, -⟩ := cut_back (HS7.out.below HB8.out) (idxS T).length (by rw [← HL7.out, ← HN2.out]; exact hle)
  have hdr : (volS T R ls).drop (idxS T).length = P := by rw [hV2]; exact List.drop_left
  rw [hdr] at hs2
  rw [← HL7.out, ← HN2.out] at hr2
  rw [← HL7.out] at hs2
  obtain ⟨n4, hn4⟩ : ∃ n4, n4 = n2 - l7 := ⟨_, rfl⟩
  rw [← hn4] at hr2 hPl
  obtain ⟨A, hA⟩ : ∃ A, A = strOf (volS T R ks) := ⟨_, rfl⟩
  obtain ⟨B, hB⟩ : ∃ B, B = strOf P := ⟨_, rfl⟩
  have hAB : strOf (volS T R (([] ++ ks) ++ ls)) = A ++ B := by rw [hV3, hA, hB, strOf_app]
  have h68 := HS67.out.below HB8.out
  have c1 : ∀ d os, (convert 35 9 (.slice p6 n1 q6)).run Tryz.prog (Go.Sort.grow (redrawn w8 d) os) = .ok (.string A) (Go.Sort.grow (redrawn w8 d) os) := fun d os => by
    rw [HN1.out, hA]; exact conv_sl _ _ _ _ (h68.below (below_regrown w8 d os))
  have c2 : ∀ d os, (convert 35 9 (.slice a2 n4 (q7 - l7))).run Tryz.prog (Go.Sort.grow (redrawn w8 d) os) = .ok (.string B) (Go.Sort.grow (redrawn w8 d) os) := fun d os => by
    rw [← hPl, hB]; exact conv_sl _ _ _ _ (hs2.below (below_regrown w8 d os))
  have c3 : ∀ d os, (convert 35 9 (.slice p8 n3 q8)).run Tryz.prog (Go.Sort.grow (redrawn w8 d) os) = .ok (.string (A ++ B)) (Go.Sort.grow (redrawn w8 d) os) := fun d os => by
    rw [HN3.out, ← hAB]; exact conv_sl _ _ _ _ (HS8.out.below (below_regrown w8 d os))
  have hAs : A.size ≤ 9000000 := by
    rw [hA, strOf_size]
    have h1 := pkts_len (nm := nameS T) (nameOf_len _) (HSR4.out.rs.byte) (m := T.slice.toNat) (by rw [HTS.out]; omega) ks
    have h2 := HXL.out
    show (idxS T ++ _).length ≤ _
    rw [List.length_append]
    omega
  have hBs : B.size ≤ 9000000 := by
    rw [hB, strOf_size, hP]
    have h1 := pkts_len (nm := nameS T) (nameOf_len _) (HSR4.out.rs.byte) (m := T.slice.toNat) (by rw [HTS.out]; omega) ls
    omega
  have hAB1 : A.size + B.size ≤ 9223372036854775807 := by omega
  have hAB2 : ¬ 9223372036854775807 < A.size + B.size := by omega
  clear hP hV3 hV2 hle hPl hs2 hdr hn4 hA hB hAB h68 hAs hBs
  clear HCd HUd HU2d HSE4 HSR4 HVN HB7 HB7d HBd HS67 HS7 HS8 HBA HBB HBC HBC4 HBd8
  go_upto_region 10 with fail
  refine wp_region_quiet_below mixed (by kernel_rfl) ?_
  repeat (first | go_big_quiet_step (fail) | quiet_step (fail))
  refine wpQuiet_nil ?_
  intro _ hw'
  obtain ⟨⟨dq, osq⟩, hw''⟩ := hw'
  subst hw''
  have HBF : Hid (Below w.heap.size w (Go.Sort.grow (redrawn w8 dq) osq)) := HBE.out.trans ((below_regrown w8 dq osq).mono HBE.out.size)
  clear c1 c2 c3
  generalize Go.Sort.grow (redrawn w8 dq) osq = w9 at *
  go_wp2_with fail
  exact HT1.out _ HBF.out
end Go.Proofs.YtcopjbapglndgaaGreatDoor
