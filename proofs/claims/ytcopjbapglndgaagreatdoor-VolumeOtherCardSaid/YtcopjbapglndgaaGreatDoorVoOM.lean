/-
  VolumeOther, walked out of the contracts.
-/
import Derived.Test.YtcopjbapglndgaaGreatDoorMr26
import Derived.Test.YtcopjbapglndgaaGreatDoorVoSM
namespace Go.Proofs.YtcopjbapglndgaaGreatDoor
open Go.ChangeShapes Go.WideShapes Go.ChangeAt Go.RowKit Go.Joins
set_option linter.unusedVariables false

theorem elemRs : Tryz.prog.elem 30 = 35 := by kernel_rfl
theorem undRs : Tryz.prog.underlying 30 = some (.slice (Tryz.prog.elem 30)) := by rw [elemRs]; exact Tryz.underlying30
theorem cut_first (g N rc : Nat) (h1 : 1 ≤ N) (h2 : N ≤ rc) (h3 : rc ≤ maxLen) : ∃ a2 : Option Addr, (∀ W, (Instr.slice 30 (.slice (some ⟨g, 0, none⟩) N rc) (some (.int .i64 1)) none none).run Tryz.prog W = .ok (.slice a2 (N - 1) (rc - 1)) W) ∧ (N = 1 ∨ a2 = some ⟨g, 1, none⟩) ∧ (a2 = none → N = 1) := by
  have hr : ∀ W, (Instr.slice 30 (.slice (some ⟨g, 0, none⟩) N rc) (some (.int .i64 1)) none none).run Tryz.prog W = .ok (sliced (some ⟨g, 0, none⟩) 1 N rc 1) W := fun W => by
    unfold maxLen at h3
    rw [run_slice_l W 30 (some ⟨g, 0, none⟩) N rc undRs .i64 _ (by omega) (by omega), elemRs, Tryz.sizeOf35]
    simp [Result.andThen]
  unfold sliced at hr
  refine ⟨_, hr, ?_, ?_⟩
  · by_cases e : rc = 1
    · exact .inl (by omega)
    · rw [if_neg e]; exact .inr (by simp [Addr.add])
  · by_cases e : rc = 1
    · exact fun _ => by omega
    · rw [if_neg e]; exact fun h => by simp at h
theorem builtS_u : Tryz.prog.builtSlice 44 1 [(0, .int .u32 1)] = some #[.int .u32 1] := by kernel_rfl
theorem op_oneU {o : Oper} {a : Act} {w : World} {K : Act → World → Prop} {Q : Exit → Act → World → Prop} (ho : o.op = .buildSlice 23 1 #[(0, .const (.int .u32 1))])
    (h : K (a.put o.dst (.slice (some ⟨w.heap.size, 0, none⟩) 1 1)) (w.alloc (.cells #[.int .u32 1] 44))) : o.wp Tryz.prog a w K Q := by
  have hf := builtS_u
  unfold Program.builtSlice at hf
  cases hie : Tryz.prog.info? 44 with
  | none => simp [hie] at hf
  | some ie =>
    simp only [hie] at hf
    cases hz : ie.zero with
    | none => simp [hz] at hf
    | some z =>
      simp only [hz] at hf
      by_cases hc : 1 * ie.size > 2 ^ 24 ∨ 1 * ie.size = 0
      · rw [if_pos hc] at hf; cases hf
      · rw [if_neg hc] at hf
        refine wp_buildSlice 23 44 1 _ ho _ ie z Tryz.underlying23 hie hz (fun h' => hc (Or.inl h')) (fun h' => hc (Or.inr h')) ?_ h
        simp only [List.map_toArray, List.map_cons, List.map_nil]
        exact hf
theorem srcs_pos (L : List Inp) (S : Nat) (h1 : 1 ≤ S) (h2 : S ≤ 256) : ∀ (k : Nat) (c : List Nat), c ∈ srcsTo L (S : Int) k → 1 ≤ c.length
  | 0, c, hc => by cases hc
  | k + 1, c, hc => by
    rcases List.mem_append.1 (show c ∈ srcsTo L (S : Int) k ++ chunksOf (L.getD k zInp).b (S : Int) from hc) with h | h
    · exact srcs_pos L S h1 h2 k c h
    · unfold chunksOf at h
      obtain ⟨i, hi, rfl⟩ := List.mem_map.1 h
      rw [chunkAt_len, Int.toNat_natCast]
      have := (cnt_lt h1 h2).1 (List.mem_range.1 hi)
      omega
set_option maxRecDepth 1000000 in
set_option maxHeartbeats 32000000 in
theorem volumeOther_walk (hV : VMakeC) (hR : VRangeC) (a : Option Addr) (cap : Nat) (L : List Inp) (s : Int) (t y : Nat) (w : World) (hs : Inps w a cap L) (hz : i64R s) (ht0 : t < 65536) (hy0 : y < 256) (hm : Mx w) (ht : Tabs w) (hF : Fours w) :
    Calls Tryz.prog 5 #[.slice a L.length cap, .int .i64 s, .int .u16 (t : Int), .int .u8 (y : Int)] w (TrueAnd w) := by
  have mixed : Tryz.prog.follows .mixedOrders = true := by kernel_rfl
  obtain ⟨PQ, hPQ⟩ : ∃ PQ, PQ = TrueAnd w := ⟨_, rfl⟩
  have HT1 : Hid (∀ w', Below w.heap.size w w' → PQ (.returned (.bool true)) w') := by
    show ∀ _, _
    rw [hPQ]; exact fun w' h => ⟨rfl, h⟩
  rw [← hPQ]
  have HAW : Hid (∀ w, Calls Tryz.prog 6 #[] w (TrueAnd w)) := awake17_any hR
  have HFC : Hid (∀ w', Below w.heap.size w w' → Calls Tryz.prog 7 #[.slice a L.length cap] w' fun e w'' => ∃ r : Bool, (e = .returned (.bool r) ∧ Below w'.heap.size w' w'') ∧ (r = true ↔ FewI L)) := fun w' h => few16_any a cap L w' (hs.below h)
  have HS := Lib.hid hs
  have HM := Lib.hid hm
  have HT := Lib.hid ht
  have HFO := Lib.hid hF
  have hlm := hs.lt
  have HZ := Lib.hid hz
  have HVC := Lib.hid hV
  obtain ⟨hz1, hz2⟩ := hz
  clear hPQ hs hm ht hF hV hR
  by_cases hf : FewI L
  case neg =>
    have HFW : Hid (∀ w', Below w.heap.size w w' → Calls Tryz.prog 7 #[.slice a L.length cap] w' fun e w'' => e = .returned (.bool false) ∧ Below w'.heap.size w' w'') := fun w' h => (HFC.out w' h).mono fun e w' ⟨r, ⟨he, hb⟩, hr⟩ => ⟨by rw [he, Bool.eq_false_iff.2 fun h => hf (hr.1 h)], hb⟩
    clear HFC hf
    go_enter Tryz.func5, Tryz.ntmps5
    go_wp2_with fail
    (with_reducible refine (HAW.out _).mono ?_)
    rintro e w1 ⟨rfl, b1⟩
    have HB1 := Lib.hid b1
    clear b1
    go_wp2_with fail
    (with_reducible refine (HFW.out w1 HB1.out).mono ?_)
    rintro e w2 ⟨rfl, b2⟩
    have HB2 : Hid (Below w.heap.size w w2) := HB1.out.trans (b2.mono HB1.out.size)
    clear b2
    go_wp2_with fail
    (with_reducible refine (HAW.out _).mono ?_)
    rintro e w3 ⟨rfl, b3⟩
    have HB3 : Hid (Below w.heap.size w w3) := HB2.out.trans (b3.mono HB2.out.size)
    clear b3
    go_wp2_with fail
    exact HT1.out _ HB3.out
  have HFW : Hid (∀ w', Below w.heap.size w w' → Calls Tryz.prog 7 #[.slice a L.length cap] w' fun e w'' => e = .returned (.bool true) ∧ Below w'.heap.size w' w'') := fun w' h => (HFC.out w' h).mono fun e w' ⟨r, ⟨he, hb⟩, hr⟩ => ⟨by rw [he, hr.2 hf], hb⟩
  have HFI := Lib.hid hf
  have hll := hf.len
  clear HFC hf
  by_cases hk70 : y = 0
  · have d1 : (y : Int) = 0 := by omega
    go_enter Tryz.func5, Tryz.ntmps5
    go_wp2_with fail
    (with_reducible refine (HAW.out _).mono ?_)
    rintro e w1 ⟨rfl, b1⟩
    have HB1 := Lib.hid b1
    clear b1
    go_wp2_with fail
    (with_reducible refine (HFW.out w1 HB1.out).mono ?_)
    rintro e w2 ⟨rfl, b2⟩
    have HB2 : Hid (Below w.heap.size w w2) := HB1.out.trans (b2.mono HB1.out.size)
    clear b2
    go_wp2_with fail
    (with_reducible refine (HAW.out _).mono ?_)
    rintro e w3 ⟨rfl, b3⟩
    have HB3 : Hid (Below w.heap.size w w3) := HB2.out.trans (b3.mono HB2.out.size)
    clear b3
    go_wp2_with fail
    exact HT1.out _ HB3.out
  have d1 : ¬ (y : Int) = 0 := by omega
  go_enter Tryz.func5, Tryz.ntmps5
  go_wp2_with fail
  (with_reducible refine (HAW.out _).mono ?_)
  rintro e w1 ⟨rfl, b1⟩
  have HB1 := Lib.hid b1
  clear b1 HAW
  go_wp2_with fail
  (with_reducible refine (HFW.out w1 HB1.out).mono ?_)
  rintro e w2 ⟨rfl, b2⟩
  have HB2 : Hid (Below w.heap.size w w2) := HB1.out.trans (b2.mono HB1.out.size)
  clear b2 HFW HB1
  go_upto_region 3 with fail
  clear d1
  have hmk := make_all a cap L s w2 (HS.out.below HB2.out) HFI.out HZ.out (HM.out.below HB2.out) (HT.out.below HB2.out) (HFO.out.below HB2.out)
  by_cases hfit : CodeIs L s 0
  case neg =>
    obtain ⟨ZA, hZA⟩ : ∃ ZA, ZA = zSetA := ⟨_, rfl⟩
    have HMK : Hid (Calls Tryz.prog 8 #[.slice a L.length cap, .int .i64 s] w2 fun e w' => Below w2.heap.size w2 w' ∧ ∃ c, CodeIs L s c ∧ c ≠ 0 ∧ e = .returned (.tuple #[.agg ZA, .slice none 0 0, .int .i64 c])) := hmk.mono fun e w' ⟨hb, c, hc, h⟩ => by
      rcases h with ⟨h0, he⟩ | ⟨h0, _⟩
      · exact ⟨hb, c, hc, h0, by rw [he, hZA]⟩
      · exact absurd (h0 ▸ hc) hfit
    have HZs : Hid (ZA.size = 3) := by show _ = _; rw [hZA]; rfl
    have HZ1 : Hid (ZA.all (·.oneCell') = true) := by show _ = _; rw [hZA]; kernel_rfl
    clear hmk hfit hZA
    go_upto_region 4 with (first
      | (go_at_call 8; (with_reducible refine HMK.out.mono ?_); rintro e w3 ⟨b3, c, hc, hc0, rfl⟩; have HB3 := Lib.hid b3; have HC := Lib.hid hc; have HC0 := Lib.hid hc0; clear b3 hc hc0 HMK; have HALL : Hid (∀ c : Array Value, (w3.alloc (.cells c 29)).heap[w3.heap.size]? = some (.cells c 29 (0, 0))) := (fun c => heap_alloc_last w3 _); have HALB : Hid (∀ c : Array Value, Below w3.heap.size w3 (w3.alloc (.cells c 29))) := (fun c => (Below.refl _ _).alloc (Nat.le_refl _) _))
      | (refine wpList_store_arr rfl 29 _ _ rfl w3.heap.size ZA rfl rfl 29 _ (HALL.out _) (by rw [HZs.out]; kernel_rfl) (by rw [HZs.out]; rfl) HZ1.out ?_; intro w4 HC4 hf4; have HB34 : Hid (Below w3.heap.size w3 w4) := (HALB.out _).trans (hf4.out.below (HALB.out _).size (fun k hk e => by omega)); clear hf4 HALL HALB))
    have HB4 : Hid (Below w.heap.size w w4) := (HB2.out.trans (HB3.out.mono HB2.out.size)).trans (HB34.out.mono (Nat.le_trans HB2.out.size HB3.out.size))
    have d1 : (c == 0) = false := beq_false_of_ne HC0.out
    have d2 : (c != 0) = true := by simp [HC0.out]
    have d3 : ¬ c = 0 := HC0.out
    clear HB34 HC4
    go_wp2_with fail
    exact HT1.out _ HB4.out
  have hft := hfit.fit
  obtain ⟨S, rfl⟩ : ∃ S : Nat, s = (S : Int) := ⟨s.toNat, by have := hft.s1; omega⟩
  have hfm := setOf_formed hft
  have hsh := srcs_short L S L.length
  have hs2 := hft.s2
  have hs1 := hft.s1
  have hps := srcs_pos L S (by omega) (by omega) L.length
  obtain ⟨R, hRR⟩ : ∃ R, R = srcsTo L (S : Int) L.length := ⟨_, rfl⟩
  obtain ⟨T, hT⟩ : ∃ T, T = setOf L (S : Int) := ⟨_, rfl⟩
  have HSM : Hid (R.map smOf = T.slices) := by show _ = _; rw [hRR, hT]; rfl
  have HTS : Hid (T.slice = (S : Int)) := by show _ = _; rw [hT]; rfl
  rw [← hRR] at hsh hps
  rw [← hT] at hfm
  have HMK : Hid (Calls Tryz.prog 8 #[.slice a L.length cap, .int .i64 (S : Int)] w2 fun e w' => Below w2.heap.size w2 w' ∧ ∃ fa fc sa sc ra rc, e = .returned (.tuple #[.agg (rowArr 3 (setV T fa fc sa sc)), .slice ra R.length rc, .int .i64 0]) ∧ SetAt w' T fa fc sa sc ∧ SrcAt w' ra rc R ∧ (sa = none → sc = 0) ∧ MkK w2.heap.size w' fa sa ra R.length) := hmk.mono fun e w' ⟨hb, c, hc, h⟩ => by
    rcases h with ⟨h0, _⟩ | ⟨_, fa, fc, sa, sc, ra, rc, he, h1, h2, h4, h3⟩
    · exact absurd (hc.one hfit) h0
    · exact ⟨hb, fa, fc, sa, sc, ra, rc, by rw [he, hRR, hT], hT ▸ h1, hRR ▸ h2, h3, by rw [hRR]; exact h4⟩
  have HFM := Lib.hid hfm
  have HSH := Lib.hid hsh
  have HPS := Lib.hid hps
  have hN64 : R.length ≤ 64 := by have h1 := hfm.m1; have h2 := congrArg List.length HSM.out; rw [List.length_map] at h2; omega
  clear hmk hfit hft hRR hT hfm hsh hps
  go_upto_region 4 with (first
      | (go_at_call 8; (with_reducible refine HMK.out.mono ?_); rintro e w3 ⟨b3, fa, fc, sa, sc, ra, rc, rfl, hset, hsrc, hsn, hmk⟩; have HMKK := Lib.hid hmk; clear hmk; have HB3 := Lib.hid b3; have HSET := Lib.hid hset; have HSRC := Lib.hid hsrc; have HSN := Lib.hid hsn; obtain ⟨SV, hSV⟩ : ∃ SV, SV = rowArr 3 (setV T fa fc sa sc) := ⟨_, rfl⟩; have VS : Hid (rowArr 3 (setV T fa fc sa sc) = SV) := hSV.symm; have HSs : Hid (SV.size = 3) := (by show _ = _; rw [hSV, rowArr_size]); have HS1 : Hid (SV.all (·.oneCell') = true) := (by show _ = _; rw [hSV]; exact setArr_one17 _ _ _ _ _); rw [← hSV]; obtain ⟨N, hN⟩ : ∃ N, N = R.length := ⟨_, rfl⟩; have HN := Lib.hid hN; rw [← hN]; clear hN hSV b3 hset hsrc hsn HMK; have HALL : Hid (∀ c : Array Value, (w3.alloc (.cells c 29)).heap[w3.heap.size]? = some (.cells c 29 (0, 0))) := (fun c => heap_alloc_last w3 _); have HALB : Hid (∀ c : Array Value, Below w3.heap.size w3 (w3.alloc (.cells c 29))) := (fun c => (Below.refl _ _).alloc (Nat.le_refl _) _))
      | (refine wpList_store_arr rfl 29 _ _ rfl w3.heap.size SV rfl rfl 29 _ (HALL.out _) (by rw [HSs.out]; kernel_rfl) (by rw [HSs.out]; rfl) HS1.out ?_; intro w4 HC4 hf4; have HB34 : Hid (Below w3.heap.size w3 w4) := (HALB.out _).trans (hf4.out.below (HALB.out _).size (fun k hk e => by omega)); clear hf4 HALL HALB))
  obtain ⟨g7, hg7⟩ : ∃ g7, g7 = w3.heap.size := ⟨_, rfl⟩
  rw [← hg7] at HC4
  rw [← hg7]
  have HB4 : Hid (Below w.heap.size w w4) := (HB2.out.trans (HB3.out.mono HB2.out.size)).trans (HB34.out.mono (Nat.le_trans HB2.out.size HB3.out.size))
  have HSE4 := Lib.hid (HSET.out.below HB34.out)
  have HSR4 := Lib.hid (HSRC.out.below HB34.out)
  have hlg : g7 < w4.heap.size := (Array.getElem?_eq_some_iff.1 HC4.out).1
  have hnN : N ≤ 64 := by rw [HN.out]; exact hN64
  clear hg7
  by_cases hN0 : N = 0
  · have d0 : (N : Int) = 0 := by omega
    go_wp2_with fail
    exact HT1.out _ HB4.out
  have d0 : ¬ (N : Int) = 0 := by omega
  have hmod : ((t : Int)).tmod (N : Int) = ((t % N : Nat) : Int) := by rw [Int.tmod_eq_emod_of_nonneg (by omega)]; rfl
  have hmo2 : (t : Int) % (N : Int) = ((t % N : Nat) : Int) := rfl
  have hkN : t % N < N := Nat.mod_lt _ (by omega)
  obtain ⟨k, hk⟩ : ∃ k, k = t % N := ⟨_, rfl⟩
  rw [← hk] at hmod hmo2 hkN
  clear hk
  have hkR : k < R.length := by rw [← HN.out]; exact hkN
  obtain ⟨g, p, q, hra, hg3, hcs, hsl⟩ := src_one HSRC.out hkR
  subst hra
  have hpos := HPS.out _ (List.getElem_mem hkR)
  obtain ⟨c, tl, hct⟩ : ∃ c tl, R[k] = c :: tl := by
    cases h : R[k] with
    | nil => rw [h] at hpos; simp at hpos
    | cons c tl => exact ⟨c, tl, rfl⟩
  rw [hct] at hsl hcs
  have hc256 : c < 256 := hsl.byte c (by simp)
  obtain ⟨b, off, rfl, hb0⟩ := hsl.some (k := 0) (by simp)
  have hc3 : w3.cell? ⟨b, off, none⟩ = some (.int .u8 (c : Int)) := hb0 0 (by simp)
  obtain ⟨hby, hnew⟩ := HMKK.out.b ⟨g, 0, none⟩ rfl k hkR _ _ _ hcs
  obtain ⟨csb, hbb⟩ := hby ⟨b, off, none⟩ rfl
  have hbn := hnew ⟨b, off, none⟩ rfl
  obtain ⟨csg, hgg⟩ := HMKK.out.r ⟨g, 0, none⟩ rfl
  have hgb : g ≠ b := fun e => by subst e; exact kinds_ne hgg hbb (by decide)
  have hb3 : b < w3.heap.size := (Array.getElem?_eq_some_iff.1 hbb).1
  have hfb : ∀ ad, fa = some ad → ad.block ≠ b := fun ad h e => by
    obtain ⟨cs, hh⟩ := HMKK.out.f ad h
    rw [e] at hh
    exact kinds_ne hh hbb (by decide)
  have hsb : ∀ ad, sa = some ad → ad.block ≠ b := fun ad h e => by
    obtain ⟨cs, hh⟩ := HMKK.out.s ad h
    rw [e] at hh
    exact kinds_ne hh hbb (by decide)
  have hbb4 := (HB34.out.block b hb3).trans hbb
  have hc4 := (HB34.out.cell (p := ⟨b, off, none⟩) hb3).trans hc3
  have hcs4 := (HB34.out.cell (p := ⟨g, k, none⟩) hg3).trans hcs
  have hg7b : g7 ≠ b := fun e => by have := HC4.out; rw [e] at this; exact kinds_ne this hbb4 (by decide)
  have hfz : w4.frozen? ⟨b, off, none⟩ = false := unfrozen_of_block hbb4 off
  obtain ⟨n, hn⟩ : ∃ n, n = (c :: tl).length := ⟨_, rfl⟩
  rw [← hn] at hcs4
  have hn1 : 1 ≤ n := by rw [hn]; simp
  have hn0 : (0 : Int) < (n : Int) := by omega
  have hn2 : 0 < n := by omega
  have i1 : (0 : Int) ≤ (k : Int) := by omega
  have i2 : (k : Int) < (N : Int) := by omega
  have hxor : bits .xor .u8 (c : Int) (y : Int) = ((c ^^^ y : Nat) : Int) := xor8 c y (by omega) (by omega)
  have HCT := Lib.hid hct
  have HNN := Lib.hid hn
  have HFB := Lib.hid hfb
  have HSB := Lib.hid hsb
  clear hct hn hfb hsb hsl hb0 hc3 hby hnew hbb hgg hcs hpos
  go_upto_region 7 with fail
  refine wp_region_still_tail 13 (by kernel_rfl) (by kernel_rfl) ?_
  simp only [List.take_succ_cons, List.take_zero, List.drop_succ_cons, List.drop_zero]
  repeat (first | still_step)
  refine wpStill_nil ?_
  change wpList _ _ _ _ _ w4.drew
  go_upto_region 8 with fail
  obtain ⟨x, hx⟩ : ∃ x, x = c ^^^ y := ⟨_, rfl⟩
  have hx256 : x < 256 := by
    rw [hx]
    have h := Nat.xor_lt_two_pow (n := 8) (x := c) (y := y) (by omega) (by omega)
    omega
  have hxc : x ≠ c := fun e => by
    have h1 : c ^^^ (c ^^^ y) = c ^^^ c := by rw [← hx, e]
    rw [← Nat.xor_assoc, Nat.xor_self, Nat.zero_xor] at h1
    omega
  rw [← hx]
  clear hx
  change Code.wp _ _ _ _ (w4.drew.setCell ⟨b, off, none⟩ (.int .u8 (x : Int)))
  have hdr : Below w4.heap.size w4 w4.drew := (Below.refl _ _).drew
  have hcd := (hdr.cell (p := ⟨b, off, none⟩) (lt_cell hc4)).trans hc4
  have hcsd := (hdr.cell (p := ⟨g, k, none⟩) (lt_cell hcs4)).trans hcs4
  obtain ⟨R', hRl, hRi, hsr5, hRk⟩ := src_poke (HSR4.out.below hdr) rfl hgb hcd hx256 hkR hcsd
  have hse5 : SetAt (w4.drew.setCell ⟨b, off, none⟩ (.int .u8 (x : Int))) T fa fc sa sc := by
    have h := HSE4.out.below hdr
    exact ⟨h.slice, h.files.poke HFB.out, h.slices.poke HSB.out⟩
  have hm5 := (((HM.out.below HB4.out).below hdr).poke hcd (.int .u8 (x : Int)))
  have ht5 := (((HT.out.below HB4.out).below hdr).poke hcd (.int .u8 (x : Int)))
  have hf5 := (((HFO.out.below HB4.out).below hdr).poke hcd (.int .u8 (x : Int)))
  have HC5 : Hid ((w4.drew.setCell ⟨b, off, none⟩ (.int .u8 (x : Int))).heap[g7]? = some (.cells SV 29 (0, 0))) := (Below.heap_setCell _ _ _ _ hg7b).trans ((hdr.block g7 hlg).trans HC4.out)
  have HB5 : Hid (Below w.heap.size w (w4.drew.setCell ⟨b, off, none⟩ (.int .u8 (x : Int)))) := ((HB4.out.trans (hdr.mono HB4.out.size)).setCell (Nat.le_trans HB2.out.size hbn) _)
  generalize w4.drew.setCell ⟨b, off, none⟩ (.int .u8 (x : Int)) = w5 at *
  have hRN : R'.length = N := by rw [hRl, ← HN.out]
  have hne1 : R'.map smOf ≠ T.slices := fun e => by
    rw [← HSM.out] at e
    have hk' : k < R'.length := by rw [hRl]; exact hkR
    have h1 : (R'.map smOf)[k]? = (R.map smOf)[k]? := by rw [e]
    rw [List.getElem?_map, List.getElem?_map, List.getElem?_eq_getElem hk', List.getElem?_eq_getElem hkR, hRk hk' c tl HCT.out, HCT.out] at h1
    have h2 := Option.some.inj h1
    have h3 : crcOf (x :: tl) = crcOf (c :: tl) := congrArg Sm.crc h2
    exact Sha.crc_other x c tl hx256 hc256 hxc h3
  have hne2 : (R'.drop 1).map smOf ≠ T.slices := fun e => by
    rw [← HSM.out] at e
    have h1 := congrArg List.length e
    rw [List.length_map, List.length_map, List.length_drop] at h1
    have := HN.out
    omega
  have hsh : ∀ z ∈ R', z.length ≤ 256 := fun z hz => by
    obtain ⟨i, hi, rfl⟩ := List.getElem_of_mem hz
    have hi2 : i < R.length := by rw [← hRl]; exact hi
    rw [hRi i hi2 hi]
    have := HSH.out _ (List.getElem_mem hi2)
    omega
  have husp : ∀ (w' : World) (p : Nat), w'.cell? ⟨p, 0, none⟩ = some (.int .u32 1) → Us w' (some ⟨p, 0, none⟩) 1 [1] := fun w' p h => ⟨by simp, Nat.le_refl _, by unfold maxLen; omega, fun e => (by cases e), .inr ⟨p, 0, rfl, lt_cell h, fun i hi => by
    have : i = 0 := by simp at hi; omega
    subst this
    exact h⟩⟩
  have HV1 : Hid (∀ (w' : World) (p : Nat), Below w5.heap.size w5 w' → w'.cell? ⟨p, 0, none⟩ = some (.int .u32 1) → Calls Tryz.prog 10 #[.agg SV, .slice (some ⟨g, 0, none⟩) N rc, .slice (some ⟨p, 0, none⟩) 1 1] w' fun e w'' => e = .returned (.tuple #[.slice none 0 0, .int .i64 1]) ∧ Below w'.heap.size w' w'') := fun w' p h hp => by
    have hvm := HVC.out T fa fc sa sc (some ⟨g, 0, none⟩) rc R' _ 1 [1] w' (hse5.below h) HFM.out HSN.out (hsr5.below h).rs hsh (by omega) (husp w' p hp) (hm5.below h) (ht5.below h) (hf5.below h)
    rw [VS.out, hRN] at hvm
    refine hvm.mono fun e w'' ⟨hb, h⟩ => ?_
    rcases h with ⟨_, h⟩ | ⟨h, _⟩ | ⟨h, _⟩
    · exact ⟨h, hb⟩
    · exact absurd h hne1
    · exact absurd h hne1
  have hrN1 : 1 ≤ R'.length := by omega
  have HV2 : Hid (∀ (w' : World) (p : Nat) (a2 : Option Addr), Below w5.heap.size w5 w' → w'.cell? ⟨p, 0, none⟩ = some (.int .u32 1) → (R'.length = 1 ∨ a2 = some ⟨g, 1, none⟩) → (a2 = none → R'.length = 1) → Calls Tryz.prog 10 #[.agg SV, .slice a2 (N - 1) (rc - 1), .slice (some ⟨p, 0, none⟩) 1 1] w' fun e w'' => e = .returned (.tuple #[.slice none 0 0, .int .i64 1]) ∧ Below w'.heap.size w' w'') := fun w' p a2 h hp ha hn => by
    have hvm := HVC.out T fa fc sa sc a2 (rc - 1) (R'.drop 1) _ 1 [1] w' (hse5.below h) HFM.out HSN.out (rs_tail17 (hsr5.below h).rs hrN1 ha hn) (fun z hz => hsh z (List.mem_of_mem_drop hz)) (by rw [List.length_drop]; omega) (husp w' p hp) (hm5.below h) (ht5.below h) (hf5.below h)
    rw [VS.out, List.length_drop, hRN] at hvm
    refine hvm.mono fun e w'' ⟨hb, h⟩ => ?_
    rcases h with ⟨_, h⟩ | ⟨h, _⟩ | ⟨h, _⟩
    · exact ⟨h, hb⟩
    · exact absurd h hne2
    · exact absurd h hne2
  have hNc : N ≤ rc := by rw [← hRN]; exact hsr5.len
  have hrcm := hsr5.most
  clear hsr5 hse5 hm5 ht5 hf5 hne1 hne2 hsh husp hRi hRk hcd hcsd hc4 hcs4 hbb4 hfz hxor HCT HNN HFB HSB
  have HAW5 : Hid (∀ W : World, (W.alloc (.cells #[.int .u32 1] 44)).cell? ⟨W.heap.size, 0, none⟩ = some (.int .u32 1) ∧ Below W.heap.size W (W.alloc (.cells #[.int .u32 1] 44))) := fun W => ⟨by rw [cell_of_block (heap_alloc_last W _)]; rfl, (Below.refl _ _).alloc (Nat.le_refl _) _⟩
  go_upto_region 9 with (first
    | (refine wpList_load_row rfl 29 _ rfl g7 rfl 29 SV (0, 0) _ HC5.out Tryz.underlying29 rfl (by rw [HSs.out]; kernel_rfl) ?_)
    | (refine wpList_plain rfl fun K hK => op_oneU rfl (hK _ _ ?_))
    | (go_at_call 10; (with_reducible refine (HV1.out _ _ (HAW5.out w5).2 (HAW5.out w5).1).mono ?_); rintro e w6 ⟨rfl, b6⟩; have HB6 : Hid (Below w5.heap.size w5 w6) := (HAW5.out w5).2.trans (b6.mono (HAW5.out w5).2.size); clear b6))
  have hg75 : g7 < w5.heap.size := (Array.getElem?_eq_some_iff.1 HC5.out).1
  obtain ⟨a2, hr2, ha2, hn2'⟩ := cut_first g N rc (by omega) hNc hrcm
  have HA2 : Hid ((R'.length = 1 ∨ a2 = some ⟨g, 1, none⟩) ∧ (a2 = none → R'.length = 1)) := ⟨by rw [hRN]; exact ha2, by rw [hRN]; exact hn2'⟩
  clear ha2 hn2'
  obtain ⟨wd, hwd⟩ : ∃ wd, wd = w6.drew := ⟨_, rfl⟩
  have HB6d : Hid (Below w6.heap.size w6 wd) := by rw [hwd]; exact (Below.refl _ _).drew
  have HBd : Hid (Below w5.heap.size w5 wd) := HB6.out.trans (HB6d.out.mono HB6.out.size)
  have HCd : Hid (wd.heap[g7]? = some (.cells SV 29 (0, 0))) := (HBd.out.block g7 hg75).trans HC5.out
  have k7 : Hid (∀ u : KeepW wd (fun b => False), ∀ i, i < 3 → u.v.cell? ⟨g7, 0 + i, none⟩ = some (setV T fa fc sa sc i)) := fun u i hi => by
    rw [u.cell (Array.getElem?_eq_some_iff.1 HCd.out).1 (fun h => h), cell_of_block HCd.out, Nat.zero_add, ← VS.out]
    simp [rowArr, hi]
  refine growK_begin 9 (fun w' => ∃ u : KeepW wd (fun b => False), w' = u.v) (by kernel_rfl) ?_
  rw [← hwd]
  clear hwd
  refine growK_take (by kernel_rfl) [0, 1, 2] 7 _ _ (by kernel_rfl) _ (keep_class (Fr.refl _ _)) ?_
  simp only [opsAt, List.getElem?_toArray, List.getElem?_cons_succ, List.getElem?_cons_zero]
  repeat (first
    | (refine wpQuiet_load_v (by rfl) 29 _ rfl g7 0 3 _ SV VS.out rfl _ (fun w hw j hj => by obtain ⟨u, rfl⟩ := hw; exact k7.out u j hj) Tryz.underlying29 rfl (by kernel_rfl) ?_)
    | go_big_quiet_step (fail) | quiet_step (fail))
  refine wpQuiet_nil ?_
  clear k7
  refine growK_one 3 (by kernel_rfl) (fun K hK => ?_)
  simp only [stepOf, List.getElem?_toArray, List.getElem?_cons_succ, List.getElem?_cons_zero]
  rw [if_pos (by rfl)]
  refine op_oneU rfl ?_
  refine hK.out _ _ (keep_class (Fr.of_below (HAW5.out wd).2)) ?_
  clear hK K
  have HMZ := Lib.hid (HV2.out (wd.alloc (.cells #[.int .u32 1] 44)) wd.heap.size a2 (HBd.out.trans ((HAW5.out wd).2.mono HBd.out.size)) (HAW5.out wd).1 HA2.out.1 HA2.out.2)
  refine growK_one 4 (by kernel_rfl) (fun K hK => ?_)
  simp only [stepOf, List.getElem?_toArray, List.getElem?_cons_succ, List.getElem?_cons_zero]
  go_simp
  go_at_call 10
  (with_reducible refine HMZ.out.mono ?_)
  rintro e w8 ⟨rfl, b8⟩
  have HBd8 : Hid (Below wd.heap.size wd w8) := (HAW5.out wd).2.trans (b8.mono (HAW5.out wd).2.size)
  refine hK.out _ _ (keep_class (Fr.of_below HBd8.out)) ?_
  clear hK K b8 HMZ
  refine growK_take (by kernel_rfl) [5, 6, 7, 8] 1 _ _ (by kernel_rfl) _ (keep_class (Fr.of_below HBd8.out)) ?_
  simp only [opsAt, List.getElem?_toArray, List.getElem?_cons_succ, List.getElem?_cons_zero]
  repeat (first | go_big_quiet_step (fail) | quiet_step (fail))
  refine wpQuiet_nil ?_
  refine growK_last (by kernel_rfl) (by kernel_rfl) (fun K hK => ?_)
  simp only [stepOf, List.getElem?_toArray, List.getElem?_cons_succ, List.getElem?_cons_zero]
  go_simp
  refine hK.out _ _ ?_
  clear hK K
  have HBE : Hid (Below w.heap.size w w8) := HB5.out.trans ((HBd.out.trans (HBd8.out.mono HBd.out.size)).mono HB5.out.size)
  clear hr2
  go_wp2_with fail
  exact HT1.out _ HBE.out
end Go.Proofs.YtcopjbapglndgaaGreatDoor
