/-
  The law SolveTells, walked, out of what package solve answers.
  The law SolveTells, walked, out of what package solve answers: all cases.
  Layer 11's laws, out of what package solve answers.
-/
import Derived.Test.YtacncbojplmcjaaMg20
import Derived.Deep.QuietTactic
import Derived.BigQuiet
section
namespace Go.Proofs.Ytacncbojplmcjaa
open Go.ChangeShapes Go.WideShapes Go.ChangeAt Go.RowKit Go.Joins
set_option linter.unusedVariables false

set_option maxRecDepth 1000000 in
set_option maxHeartbeats 4000000 in
theorem tells_out (HCC : SolC) (a : Option Addr) (cap : Nat) (es : Eqz) (a1 : Option Addr) (cap1 : Nat) (u : List Nat) (w : World) (hs : Er w a cap es) (hu : Sl w a1 cap1 u) (hF : ¬ FewP es ∨ 60 < u.length) :
    Calls Try.prog 4 #[.slice a es.length cap, .slice a1 u.length cap1] w (TrueAnd w) := by
  have HS := Lib.hid hs
  have HAW := Lib.hid (awake11_any HCC)
  have HFW := Lib.hid (fun w h => few_any a cap es w h)
  have hul := hu.lt
  clear hs HCC hu
  by_cases hf : FewP es
  · have hd : decide (FewP es) = true := decide_eq_true hf
    have d1 : decide ((60 : Int) < (u.length : Int)) = true := decide_eq_true (by have := hF.resolve_left (fun h => h hf); omega)
    rw [hd] at HFW
    clear hF
    go_enter Try.func4, Try.ntmps4
    go_wp2_with fail
    refine (HAW.out w).mono ?_
    rintro e w1 ⟨rfl, b1⟩
    have HB1 := Lib.hid b1
    clear b1
    go_wp2_with fail
    refine (HFW.out w1 (HS.out.below HB1.out)).mono ?_
    rintro e w' ⟨rfl, rfl⟩
    go_wp2_with fail
    refine (HAW.out w1).mono ?_
    rintro e w2 ⟨rfl, b2⟩
    have HB2 := Lib.hid (HB1.out.trans (b2.mono HB1.out.size))
    clear b2
    go_wp2_with fail
    go_ret
    exact ⟨rfl, HB2.out⟩
  · have hd : decide (FewP es) = false := decide_eq_false hf
    rw [hd] at HFW
    clear hF
    go_enter Try.func4, Try.ntmps4
    go_wp2_with fail
    refine (HAW.out w).mono ?_
    rintro e w1 ⟨rfl, b1⟩
    have HB1 := Lib.hid b1
    clear b1
    go_wp2_with fail
    refine (HFW.out w1 (HS.out.below HB1.out)).mono ?_
    rintro e w' ⟨rfl, rfl⟩
    go_wp2_with fail
    refine (HAW.out w1).mono ?_
    rintro e w2 ⟨rfl, b2⟩
    have HB2 := Lib.hid (HB1.out.trans (b2.mono HB1.out.size))
    clear b2
    go_wp2_with fail
    go_ret
    exact ⟨rfl, HB2.out⟩

set_option maxRecDepth 1000000 in
set_option maxHeartbeats 4000000 in
theorem tells_none (HCC : SolC) (er : Nat) (her : er = 1 ∨ er = 9) (a : Option Addr) (cap : Nat) (es : Eqz) (a1 : Option Addr) (cap1 : Nat) (u : List Nat) (w : World) (hs : Er w a cap es) (hu : Sl w a1 cap1 u) (hf : FewP es) (hn : u.length ≤ 60)
    (HSV0 : ∀ w, Er w a cap es → Calls Try.prog 8 #[.slice a es.length cap, .int .i64 (u.length : Int)] w (SolNone er w)) :
    Calls Try.prog 4 #[.slice a es.length cap, .slice a1 u.length cap1] w (TrueAnd w) := by
  have HS := Lib.hid hs
  have HAW := Lib.hid (awake11_any HCC)
  have HFW := Lib.hid (fun w h => few_any a cap es w h)
  have HSV := Lib.hid HSV0
  rw [show decide (FewP es) = true from decide_eq_true hf] at HFW
  have d1 : decide ((60 : Int) < (u.length : Int)) = false := decide_eq_false (by omega)
  have d2 : ((er : Int) != 0) = true := by rcases her with rfl | rfl <;> rfl
  clear hs HCC hu HSV0 hf her
  go_enter Try.func4, Try.ntmps4
  go_wp2_with fail
  refine (HAW.out w).mono ?_
  rintro e w1 ⟨rfl, b1⟩
  have HB1 := Lib.hid b1
  clear b1
  go_wp2_with fail
  refine (HFW.out w1 (HS.out.below HB1.out)).mono ?_
  rintro e w' ⟨rfl, rfl⟩
  go_wp2_with fail
  refine (HSV.out w1 (HS.out.below HB1.out)).mono ?_
  rintro e w3 ⟨da, dc, wa, wc, rfl, b3⟩
  have HB3 := Lib.hid ((HB1.out.trans (b3.mono HB1.out.size)).alloc (Nat.le_trans HB1.out.size b3.size) (.cells #[.slice da 0 dc, .slice wa 0 wc] 31))
  clear b3
  go_wp2_with fail
  go_ret
  exact ⟨rfl, HB3.out⟩

set_option maxRecDepth 1000000 in
set_option maxHeartbeats 16000000 in
theorem tells_full (HCC : SolC) (a : Option Addr) (cap : Nat) (es : Eqz) (a1 : Option Addr) (cap1 : Nat) (u : List Nat) (w : World) (hs : Er w a cap es) (hu : Sl w a1 cap1 u) (hf : FewP es) (hn : u.length ≤ 60) (hR : RightP es (u.length : Int)) (hk : rkE es u.length = u.length) :
    Calls Try.prog 4 #[.slice a es.length cap, .slice a1 u.length cap1] w (TrueAnd w) := by
  have HS := Lib.hid hs
  have HU := Lib.hid hu
  have HAW := Lib.hid (awake11_any HCC)
  have HFW := Lib.hid (fun w h => few_any a cap es w h)
  have HSV := Lib.hid (fun w h => HCC.full a cap es u.length w h hR hk)
  have HMU := Lib.hid (fun x y hx hy w => refMul_any x y hx hy w)
  have HMQ : Hid (∀ x y : Nat, x < 256 → y < 256 → ∀ w, Calls Try.prog 12 #[.int .u8 (x : Int), .int .u8 (y : Int)] w fun e w' => e = .returned (.int .u8 ((mulN x y : Nat) : Int)) ∧ w' = w) := fun x y hx hy w => (refMul_any x y hx hy w).mono fun _ _ h => ⟨h.1, h.2.symm⟩
  rw [show decide (FewP es) = true from decide_eq_true hf] at HFW
  have d1 : decide ((60 : Int) < (u.length : Int)) = false := decide_eq_false (by omega)
  have hm := hf.1
  have hmk := make_row es.length (by omega)
  have HUB : Hid (IsByte u) := hu.byte
  have hrr : ∀ l ∈ es, ∀ c ∈ l, 0 ≤ c.1 ∧ c.1 < (u.length : Int) := fun l hl c hc => ⟨((hR.2.2.2 l hl).1 c hc).1, ((hR.2.2.2 l hl).1 c hc).2.1⟩
  have hull := hu.lt
  have HEC : Hid (∀ l ∈ es, ∀ c ∈ l, c.2 < 256) := fun l hl c hc => by
    obtain ⟨i, hi, rfl⟩ := List.mem_iff_getElem.1 hl
    obtain ⟨_, _, _, _, _, _, _, h⟩ := er_one HS.out hi
    exact (h.rng c hc).2.2
  clear hs HCC hu hf hR hk
  obtain ⟨n, hnn⟩ : ∃ n, n = u.length := ⟨_, rfl⟩
  go_enter Try.func4, Try.ntmps4
  go_wp2_with fail
  refine (HAW.out w).mono ?_
  rintro e w1 ⟨rfl, b1⟩
  have HB1 := Lib.hid b1
  clear b1
  go_wp2_with fail
  refine (HFW.out w1 (HS.out.below HB1.out)).mono ?_
  rintro e w' ⟨rfl, rfl⟩
  clear hnn
  go_wp2_with fail
  refine (HSV.out w1 (HS.out.below HB1.out)).mono ?_
  rintro e w3 ⟨da, dc, D, wa, wc, Wh, rfl, hdr, hwr, hsy, b3⟩
  have HDR := Lib.hid hdr
  have HWR := Lib.hid hwr
  have HSY := Lib.hid hsy
  have hdl : D.length ≤ 9223372036854775807 := by have h1 := hdr.len; have h2 := hdr.most; unfold maxLen at h2; omega
  have hwl : Wh.length = u.length := hsy.len
  have HB3 := Lib.hid (HB1.out.trans (b3.mono HB1.out.size))
  clear b3 hdr hwr hsy HSV HFW HAW
  go_wp2_with fail
  obtain ⟨O, hO⟩ : ∃ O, O = w3.heap.size := ⟨_, rfl⟩
  obtain ⟨W, hW⟩ : ∃ W, W = ((w3.alloc (.cells #[.slice da D.length dc, .slice wa Wh.length wc] 31)).alloc (.cells (rowArr es.length zV) 5)) := ⟨_, rfl⟩
  obtain ⟨T, hT⟩ : ∃ T, T = w3.heap.size + 1 := ⟨_, rfl⟩
  have HBW : Hid (Below w.heap.size w W) := by rw [hW]; exact (HB3.out.alloc HB3.out.size _).alloc (by have := HB3.out.size; simp; omega) _
  have HLOW : Hid (Below w3.heap.size w3 W) := by rw [hW]; exact ((Below.refl _ w3).alloc (Nat.le_refl _) _).alloc (by simp) _
  have hOT : O < T := by omega
  have h3T : w3.heap.size < T := by omega
  have hwT : w.heap.size ≤ w3.heap.size := HB3.out.size
  have HORD : Hid (W.heap[O]? = some (.cells #[.slice da D.length dc, .slice wa Wh.length wc] 31 (0, 0))) := by
    rw [hW, hO]
    exact (Below.heap_alloc _ _ _ (by simp)).trans (heap_alloc_last w3 _)
  have HT0 : Hid (BoardAt W W T (bI es u 0)) := by
    have h0 : bI es u 0 = List.replicate es.length 0 := by unfold bI; simp
    refine ⟨?_, Fr.refl _ _⟩
    rw [h0, List.length_replicate, hW]
    refine Row.new_whole _ _ _ _ _ _ (by rw [hT]; simp) ?_
    unfold rowArr
    congr 1
    apply List.map_congr_left
    intro j hj
    have := List.mem_range.1 hj
    rw [vOf_eq _ _ (by simp; exact this)]
    simp [zV]
  have hWs : T < W.heap.size := by rw [hW, hT]; simp
  rw [hwl] at HORD hW
  rw [← hW, ← hT, ← hO]
  clear hW hT hO HB1 HB3
  go_loopw [43] (fun i wr => ∃ k : Nat, k ≤ es.length ∧ i = .int .i64 k ∧ Hid (BoardAt W wr T (bI es u k))) (fun i _ => es.length - (intOf i).toNat)
  case atStart => exact ⟨0, by omega, rfl, HT0⟩
  case round =>
    obtain ⟨k, hk, rfl, HT⟩ := hrel
    clear HT0
    have hlt : k < es.length ∨ ¬ k < es.length := by omega
    rcases hlt with hk2 | hk2
    · obtain ⟨b, off, rfl, hb, a', c', hc0, hcr⟩ := er_one HS.out hk2
      have hcW := (HBW.out.cell (p := ⟨b, off + k, none⟩) hb).trans hc0
      have hbT : b ≠ T := by omega
      have hbW : b < W.heap.size := by omega
      have hlk := hcr.lt
      have HC := Lib.hid hcr
      have HXR : Hid (∀ c ∈ es[k], 0 ≤ c.1 ∧ c.1 < (u.length : Int)) := hrr _ (List.getElem_mem hk2)
      have HN := Lib.hid (bI_next (u := u) hk2)
      have HE := Lib.hid (bI_at (u := u) hk2)
      have HLB := bI_len (es := es) (u := u) hk
      have HV := Lib.hid (fun j (hj : j < es[k].length) => valK_next (u := u) (l := es[k]) (k := j) hj)
      clear hcr hc0
      generalize es[k] = x at *
      obtain ⟨L, hL⟩ : ∃ L, L = bI es u k := ⟨_, rfl⟩
      rw [← hL] at HT HN HE HLB
      have hc := (HT.out.old (p := ⟨b, off + k, none⟩) hbW hbT).trans hcW
      have HA0 : Hid (BoardAt W wr T (L.set k (valK u x 0))) := by
        rw [show valK u x 0 = 0 from rfl, HE.out]; exact HT.out
      clear HE hL HT
      go_wp2_with fail
      go_loopw [51] (fun i wr => ∃ j : Nat, j ≤ x.length ∧ i = .int .i64 j ∧ Hid (BoardAt W wr T (L.set k (valK u x j)))) (fun i _ => x.length - (intOf i).toNat)
      case atStart => exact ⟨0, by omega, rfl, HA0⟩
      case round =>
        obtain ⟨j, hj, rfl, HA⟩ := hrel
        clear HA0 hc
        by_cases hlj : j < x.length
        · obtain ⟨b', off', rfl, hb', hc'⟩ := HC.out.some hlj
          obtain ⟨c0, c1⟩ := hc' j hlj
          obtain ⟨r1, r2⟩ := HXR.out _ (List.getElem_mem hlj)
          have hyb := (HC.out.rng _ (List.getElem_mem hlj)).2.2
          have HX := Lib.hid (HV.out j hlj)
          obtain ⟨p, hp⟩ : ∃ p : Nat, x[j].1 = (p : Int) := ⟨x[j].1.toNat, by omega⟩
          have hpt : x[j].1.toNat = p := by omega
          rw [hpt] at HX
          rw [hp] at c0 r2
          have hpu : p < u.length := by omega
          have hpz : (p : Int) < (u.length : Int) := r2
          obtain ⟨bu, ou, rfl, hu'⟩ := HU.out.some hpu
          have cu := hu' p hpu
          have hbu := World.block_lt_of_cell? w _ cu
          simp only at hbu
          have hvb : u[p] < 256 := HUB.out _ (List.getElem_mem hpu)
          rw [getD_get hpu] at HX
          obtain ⟨y, hy⟩ : ∃ y : Nat, y = x[j].2 := ⟨_, rfl⟩
          obtain ⟨v, hv⟩ : ∃ v : Nat, v = u[p] := ⟨_, rfl⟩
          rw [← hy] at c1 HX hyb
          rw [← hv] at cu HX hvb
          obtain ⟨s, hs⟩ : ∃ s : Nat, s = valK u x j := ⟨_, rfl⟩
          rw [← hs] at HX HA
          have hsb : s < 256 := by rw [hs]; exact valK_byte (fun c hc => (HC.out.rng c hc).2.2)
          obtain ⟨wd, hwd⟩ : ∃ wd, wd = wr.drew := ⟨_, rfl⟩
          have HD : Hid (BoardAt W wd T (L.set k s)) := by rw [hwd]; exact HA.out.later ((Below.refl _ _).drew)
          have hkz : (k : Int) < (es.length : Int) := by omega
          have hjz : (j : Int) < (x.length : Int) := by omega
          have hkL : k < (L.set k s).length := by rw [List.length_set]; omega
          have hgs : (L.set k s).getD k 0 = s := by rw [getD_get hkL]; simp
          have kT0 := HD.out.cell hkL
          rw [hgs] at kT0
          have kT : ∀ q : Has wd, q.v.cell? ⟨T, k, none⟩ = some (.int .u8 (s : Int)) := fun q => q.cell kT0
          have k1 : ∀ q : Has wd, q.v.cell? ⟨b, off + k, none⟩ = some (.slice (some ⟨b', off', none⟩) x.length c') := fun q => q.cell ((HD.out.old (p := ⟨b, off + k, none⟩) hbW hbT).trans hcW)
          have k2 : ∀ q : Has wd, q.v.cell? ⟨b', off' + j * 2, none⟩ = some (.int .i64 (p : Int)) := fun q => q.cell ((HD.out.old (p := ⟨b', off' + j * 2, none⟩) (by show b' < _; omega) (by show b' ≠ _; omega)).trans ((HBW.out.cell (p := ⟨b', off' + j * 2, none⟩) hb').trans c0))
          have k3 : ∀ q : Has wd, q.v.cell? ⟨b', off' + j * 2 + 1, none⟩ = some (.int .u8 (y : Int)) := fun q => q.cell ((HD.out.old (p := ⟨b', off' + j * 2 + 1, none⟩) (by show b' < _; omega) (by show b' ≠ _; omega)).trans ((HBW.out.cell (p := ⟨b', off' + j * 2 + 1, none⟩) hb').trans c1))
          have k4 : ∀ q : Has wd, q.v.cell? ⟨bu, ou + p, none⟩ = some (.int .u8 (v : Int)) := fun q => q.cell ((HD.out.old (p := ⟨bu, ou + p, none⟩) (by show bu < _; omega) (by show bu ≠ _; omega)).trans ((HBW.out.cell (p := ⟨bu, ou + p, none⟩) hbu).trans cu))
          clear hc' hu' c0 c1 cu hp hpt hy hv hs r1 r2 kT0 hgs HA
          go_wp2_with fail
          refine growK_begin 28 (fun w' => ∃ p : Has wd, w' = p.v) (by kernel_rfl) ?_
          rw [← hwd]
          clear hwd
          refine growK_take (by kernel_rfl) [0, 1, 2, 3, 4, 5, 6, 7, 8, 9, 10, 11, 12, 13, 14, 15, 16, 17, 18, 19, 20, 21, 22, 23, 24] 4 _ _ (by kernel_rfl) _ (has_class (Fr.refl _ _)) ?_
          simp only [opsAt, List.getElem?_toArray, List.getElem?_cons_succ, List.getElem?_cons_zero]
          repeat (first | go_big_quiet_step (fail) | quiet_step (fail))
          refine wpQuiet_nil ?_
          refine growK_one 25 (by kernel_rfl) (fun K hK => ?_)
          simp only [stepOf, List.getElem?_toArray, List.getElem?_cons_succ, List.getElem?_cons_zero]
          go_simp
          go_at_call 12
          refine (HMU.out y v hyb hvb _).mono ?_
          rintro e w5 ⟨rfl, rfl⟩
          refine hK.out _ _ (has_class (Fr.refl _ _)) ?_
          clear hK K
          refine growK_take (by kernel_rfl) [26, 27] 1 _ _ (by kernel_rfl) _ (has_class (Fr.refl _ _)) ?_
          simp only [opsAt, List.getElem?_toArray, List.getElem?_cons_succ, List.getElem?_cons_zero]
          repeat (first | go_big_quiet_step (fail) | quiet_step (fail))
          refine wpQuiet_nil ?_
          clear kT k1 k2 k3 k4
          have HDN := Lib.hid (HD.out.set hkL (s ^^^ mulN y v))
          have zT := HD.out.row.loose k
          obtain ⟨uT, cT⟩ := HD.out.row.has k (by rw [List.length_set]; omega)
          refine growK_last (by kernel_rfl) (by kernel_rfl) (fun K hK => ?_)
          simp only [stepOf, List.getElem?_toArray, List.getElem?_cons_succ, List.getElem?_cons_zero]
          go_simp
          refine hK.out _ _ ?_
          clear hK K
          have HAN : Hid (BoardAt W (wd.setCell ⟨T, k, none⟩ (.int .u8 ((s ^^^ mulN y v : Nat) : Int))) T (L.set k (valK u x (j + 1)))) := by
            have h := HDN.out
            rw [List.set_set] at h
            rw [HX.out]
            exact h
          rw [← xor8 s (mulN y v) hsb (mulN_lt _ hyb)] at HAN
          clear HDN
          go_wp2_with fail
          go_roundw
          case rel => exact ⟨j + 1, by omega, by go_num, HAN⟩
          case measure => simp [intOf]; omega
        · obtain rfl : j = x.length := by omega
          have HT1 : Hid (BoardAt W wr T (bI es u (k + 1))) := by rw [HN.out]; exact HA
          clear HA
          go_wp2_with fail
          go_roundw
          case rel => exact ⟨k + 1, by omega, by go_num, HT1⟩
          case measure => simp [intOf]; omega
    · obtain rfl : k = es.length := by omega
      rw [bI_all] at HT
      have oW0 : W.cell? ⟨O, 0, none⟩ = some (.slice da D.length dc) := by simp [World.cell?, HORD.out]
      have oW1 : W.cell? ⟨O, 1, none⟩ = some (.slice wa u.length wc) := by simp [World.cell?, HORD.out]
      have hOW : O < W.heap.size := by omega
      have hOne : O ≠ T := by omega
      have o0 := (HT.out.old (p := ⟨O, 0, none⟩) hOW hOne).trans oW0
      obtain ⟨V, hV⟩ : ∃ V, V = valsOf es u := ⟨_, rfl⟩
      have HVB : Hid (IsByte V) := by rw [hV]; exact valsOf_byte u HEC.out
      have hVL : V.length = es.length := by rw [hV]; simp [valsOf]
      have HTL : Hid (∀ i, i < u.length → (runD D V).getD (Wh.getD i 0) 0 = u.getD i 0) := by rw [hV]; exact HSY.out.tells u rfl HUB.out
      rw [← hV] at HT
      have HDB0 : Hid (BoardAt W wr T (runD (D.take 0) V)) := HT
      clear HT hV HEC HORD hrr
      go_wp2_with fail
      go_loopw [87] (fun i wr => ∃ k : Nat, k ≤ D.length ∧ i = .int .i64 k ∧ Hid (BoardAt W wr T (runD (D.take k) V))) (fun i _ => D.length - (intOf i).toNat)
      case atStart => exact ⟨0, by omega, rfl, HDB0⟩
      case round =>
        obtain ⟨k, hk, rfl, HT⟩ := hrel
        clear HDB0 o0
        by_cases hkD : k < D.length
        · have o0 := (HT.out.old (p := ⟨O, 0, none⟩) hOW hOne).trans oW0
          obtain ⟨bd, od, rfl, hbd, hcd⟩ := HDR.out.here.resolve_left (fun h => by rw [h] at hkD; exact absurd hkD (by simp))
          obtain ⟨c0, c1, c2⟩ := hcd k hkD
          have hdd := HSY.out.deed _ (List.getElem_mem hkD)
          have HX := Lib.hid (runD_next (b := V) hkD)
          have hbdW : bd < W.heap.size := by omega
          have hbdT : bd ≠ T := by omega
          have d0 := (HT.out.old (p := ⟨bd, od + k * 3, none⟩) hbdW hbdT).trans ((HLOW.out.cell (p := ⟨bd, od + k * 3, none⟩) hbd).trans c0)
          have d1 := (HT.out.old (p := ⟨bd, od + k * 3 + 1, none⟩) hbdW hbdT).trans ((HLOW.out.cell (p := ⟨bd, od + k * 3 + 1, none⟩) hbd).trans c1)
          have d2 := (HT.out.old (p := ⟨bd, od + k * 3 + 2, none⟩) hbdW hbdT).trans ((HLOW.out.cell (p := ⟨bd, od + k * 3 + 2, none⟩) hbd).trans c2)
          clear hcd c0 c1 c2
          obtain ⟨⟨t, f, c⟩, hd⟩ : ∃ d, d = D[k] := ⟨_, rfl⟩
          rw [← hd] at d0 d1 d2 hdd HX
          obtain ⟨f1, f2, f3, f4⟩ := hdd
          simp only at d0 d1 d2 f1 f2 f3 f4
          have hBL : (runD (D.take k) V).length = es.length := by rw [runD_len, hVL]
          have HBB : Hid (IsByte (runD (D.take k) V)) := runD_byte _ _ HVB.out
          obtain ⟨B, hB⟩ : ∃ B, B = runD (D.take k) V := ⟨_, rfl⟩
          rw [← hB] at HX HT hBL HBB
          have HX2 : Hid (runD (D.take (k + 1)) V = B.set t (if t = f then mulN (B.getD f 0) c else B.getD t 0 ^^^ mulN (B.getD f 0) c)) := HX
          have hkz : (k : Int) < (D.length : Int) := by omega
          clear HX hd hB
          have htz : (t : Int) < (es.length : Int) := by omega
          have hfz : (f : Int) < (es.length : Int) := by omega
          obtain ⟨w2, hw2⟩ : ∃ w2, w2 = wr.alloc (.cells #[.int .i64 (t : Int), .int .i64 (f : Int), .int .u8 (c : Int)] 44) := ⟨_, rfl⟩
          have HT2 : Hid (BoardAt W w2 T B) := by rw [hw2]; exact HT.out.later ((Below.refl _ _).alloc (Nat.le_refl _) _)
          have e0 : w2.cell? ⟨wr.heap.size, 0, none⟩ = some (.int .i64 (t : Int)) := by rw [hw2]; simp
          have e1 : w2.cell? ⟨wr.heap.size, 1, none⟩ = some (.int .i64 (f : Int)) := by rw [hw2]; simp
          have e2 : w2.cell? ⟨wr.heap.size, 2, none⟩ = some (.int .u8 (c : Int)) := by rw [hw2]; simp
          have hfB : f < B.length := by omega
          have htB : t < B.length := by omega
          have eB := HT2.out.cell hfB
          have eT := HT2.out.cell htB
          have zT := HT2.out.row.loose t
          obtain ⟨z, hz⟩ : ∃ z, z = B.getD f 0 := ⟨_, rfl⟩
          have hzb : z < 256 := by rw [hz]; exact getD_byte HBB.out _
          obtain ⟨y, hy⟩ : ∃ y, y = B.getD t 0 := ⟨_, rfl⟩
          have hyb : y < 256 := by rw [hy]; exact getD_byte HBB.out _
          rw [← hz] at eB HX2
          rw [← hy] at eT HX2
          clear HBB hz hy
          clear zT
          obtain ⟨wd, hwd⟩ : ∃ wd, wd = w2.drew := ⟨_, rfl⟩
          have HT3 : Hid (BoardAt W wd T B) := by rw [hwd]; exact HT2.out.drew
          have k0 : ∀ q : Has wd, q.v.cell? ⟨wr.heap.size, 0, none⟩ = some (.int .i64 (t : Int)) := fun q => q.cell (by rw [hwd]; exact e0)
          have k1 : ∀ q : Has wd, q.v.cell? ⟨wr.heap.size, 1, none⟩ = some (.int .i64 (f : Int)) := fun q => q.cell (by rw [hwd]; exact e1)
          have k2 : ∀ q : Has wd, q.v.cell? ⟨wr.heap.size, 2, none⟩ = some (.int .u8 (c : Int)) := fun q => q.cell (by rw [hwd]; exact e2)
          have kB : ∀ q : Has wd, q.v.cell? ⟨T, f, none⟩ = some (.int .u8 (z : Int)) := fun q => q.cell (by rw [hwd]; exact eB)
          have g0 : wd.cell? ⟨wr.heap.size, 0, none⟩ = some (.int .i64 (t : Int)) := by rw [hwd]; exact e0
          have gT : wd.cell? ⟨T, t, none⟩ = some (.int .u8 (y : Int)) := by rw [hwd]; exact eT
          have uT3 := HT3.out.row.has t htB
          have zT3 := HT3.out.row.loose t
          have g1 : wd.cell? ⟨wr.heap.size, 1, none⟩ = some (.int .i64 (f : Int)) := by rw [hwd]; exact e1
          by_cases htf : t = f
          · have hcz : ¬ (c : Int) = 0 := by have := f4 htf; omega
            have hcb : ((c : Int) == 0) = false := by simp; omega
            have hcd : decide ((c : Int) = 0) = false := decide_eq_false hcz
            rw [if_pos htf] at HX2
            clear e0 e1 e2 eB eT
            subst htf
            go_wp2_with fail
            rw [← hw2]
            clear hw2 f4 hcb hcd hcz
            generalize wr.heap.size = g at *
            clear HT d0 d1 d2 o0
            refine growK_begin 8 (fun w' => ∃ p : Has wd, w' = p.v) (by kernel_rfl) ?_
            rw [← hwd]
            clear hwd
            refine growK_take (by kernel_rfl) [0, 1, 2, 3, 4, 5, 6] 2 _ _ (by kernel_rfl) _ (has_class (Fr.refl _ _)) ?_
            simp only [opsAt, List.getElem?_toArray, List.getElem?_cons_succ, List.getElem?_cons_zero]
            (first | go_big_quiet_step (fail) | quiet_step (fail))
            (first | go_big_quiet_step (fail) | quiet_step (fail))
            (first | go_big_quiet_step (fail) | quiet_step (fail))
            (first | go_big_quiet_step (fail) | quiet_step (fail))
            (first | go_big_quiet_step (fail) | quiet_step (fail))
            (first | go_big_quiet_step (fail) | quiet_step (fail))
            (first | go_big_quiet_step (fail) | quiet_step (fail))
            refine wpQuiet_nil ?_
            refine growK_one 7 (by kernel_rfl) (fun K hK => ?_)
            simp only [stepOf, List.getElem?_toArray, List.getElem?_cons_succ, List.getElem?_cons_zero]
            go_simp
            go_at_call 12
            refine (HMU.out z c hzb f3 _).mono ?_
            rintro e w5 ⟨rfl, rfl⟩
            refine hK.out _ _ (has_class (Fr.refl _ _)) ?_
            clear hK K k0 k1 k2 kB
            refine growK_last (by kernel_rfl) (by kernel_rfl) (fun K hK => ?_)
            simp only [stepOf, List.getElem?_toArray, List.getElem?_cons_succ, List.getElem?_cons_zero]
            go_simp
            refine hK.out _ _ ?_
            clear hK K
            go_wp2_with fail
            go_roundw
            case rel => exact ⟨k + 1, by omega, by go_num, by rw [HX2.out]; exact HT3.out.set htB _⟩
            case measure => simp [intOf]; omega
          · have htfz : ¬ (t : Int) = (f : Int) := by omega
            rw [if_neg htf] at HX2
            clear e0 e1 e2 eB eT
            go_wp2_with fail
            rw [← hw2]
            clear hw2 f4 
            generalize wr.heap.size = g at *
            clear HT d0 d1 d2 o0
            refine growK_begin 8 (fun w' => ∃ p : Has wd, w' = p.v) (by kernel_rfl) ?_
            rw [← hwd]
            clear hwd
            refine growK_take (by kernel_rfl) [0, 1, 2, 3, 4, 5, 6] 2 _ _ (by kernel_rfl) _ (has_class (Fr.refl _ _)) ?_
            simp only [opsAt, List.getElem?_toArray, List.getElem?_cons_succ, List.getElem?_cons_zero]
            (first | go_big_quiet_step (fail) | quiet_step (fail))
            (first | go_big_quiet_step (fail) | quiet_step (fail))
            (first | go_big_quiet_step (fail) | quiet_step (fail))
            (first | go_big_quiet_step (fail) | quiet_step (fail))
            (first | go_big_quiet_step (fail) | quiet_step (fail))
            (first | go_big_quiet_step (fail) | quiet_step (fail))
            (first | go_big_quiet_step (fail) | quiet_step (fail))
            refine wpQuiet_nil ?_
            refine growK_one 7 (by kernel_rfl) (fun K hK => ?_)
            simp only [stepOf, List.getElem?_toArray, List.getElem?_cons_succ, List.getElem?_cons_zero]
            go_simp
            go_at_call 12
            refine (HMU.out z c hzb f3 _).mono ?_
            rintro e w5 ⟨rfl, rfl⟩
            refine hK.out _ _ (has_class (Fr.refl _ _)) ?_
            clear hK K k2 kB
            refine growK_last (by kernel_rfl) (by kernel_rfl) (fun K hK => ?_)
            simp only [stepOf, List.getElem?_toArray, List.getElem?_cons_succ, List.getElem?_cons_zero]
            go_simp
            refine hK.out _ _ ?_
            clear hK K
            go_wp2_with fail
            obtain ⟨we, hwe⟩ : ∃ we, we = wd.drew := ⟨_, rfl⟩
            have HT4 : Hid (BoardAt W we T B) := by rw [hwe]; exact HT3.out.drew
            have l0 : ∀ q : Has we, q.v.cell? ⟨g, 0, none⟩ = some (.int .i64 (t : Int)) := fun q => q.cell (by rw [hwe]; exact g0)
            have lT : ∀ q : Has we, q.v.cell? ⟨T, t, none⟩ = some (.int .u8 (y : Int)) := fun q => q.cell (by rw [hwe]; exact gT)
            refine growK_begin 11 (fun w' => ∃ p : Has we, w' = p.v) (by kernel_rfl) ?_
            rw [← hwe]
            clear hwe
            refine growK_take (by kernel_rfl) [0, 1, 2, 3, 4, 5, 6, 7, 8, 9, 10] 1 _ _ (by kernel_rfl) _ (has_class (Fr.refl _ _)) ?_
            simp only [opsAt, List.getElem?_toArray, List.getElem?_cons_succ, List.getElem?_cons_zero]
            repeat (first | go_big_quiet_step (fail) | quiet_step (fail))
            refine wpQuiet_nil ?_
            clear l0 lT g0 g1 gT k0 k1
            have HDN := Lib.hid (HT4.out.set htB (y ^^^ mulN z c))
            rw [← HX2.out] at HDN
            rw [← xor8 y (mulN z c) hyb (mulN_lt _ hzb)] at HDN
            have zE := HT4.out.row.loose t
            obtain ⟨uT, cT⟩ := HT4.out.row.has t htB
            refine growK_last (by kernel_rfl) (by kernel_rfl) (fun K hK => ?_)
            simp only [stepOf, List.getElem?_toArray, List.getElem?_cons_succ, List.getElem?_cons_zero]
            go_simp
            refine hK.out _ _ ?_
            clear hK K
            go_wp2_with fail
            go_roundw
            case rel => exact ⟨k + 1, by omega, by go_num, HDN⟩
            case measure => simp [intOf]; omega
        · obtain rfl : k = D.length := by omega
          rw [List.take_length] at HT
          obtain ⟨R, hR⟩ : ∃ R, R = runD D V := ⟨_, rfl⟩
          have hRL : R.length = es.length := by rw [hR, runD_len, hVL]
          rw [← hR] at HT HTL
          have HWX := Lib.hid HSY.out.slot
          have hwl2 : (Wh.map fun n : Nat => (n : Int)).length = u.length := by rw [List.length_map, hwl]
          have o1 := (HT.out.old (p := ⟨O, 1, none⟩) hOW hOne).trans oW1
          have HT0 : Hid (BoardAt W wr T R) := HT
          clear HT hR HVB hVL HSY HDR oW0
          go_wp2_with fail
          go_loopw [162] (fun i wr => ∃ k : Nat, k ≤ u.length ∧ i = .int .i64 k ∧ Hid (BoardAt W wr T R)) (fun i _ => u.length - (intOf i).toNat)
          case atStart => exact ⟨0, by omega, rfl, HT0⟩
          case round =>
            obtain ⟨k, hk, rfl, HT⟩ := hrel
            clear HT0 o1
            have o1 := (HT.out.old (p := ⟨O, 1, none⟩) hOW hOne).trans oW1
            by_cases hku : k < u.length
            · have hkw : k < Wh.length := by omega
              obtain ⟨bw, ow, rfl, hbw, cw⟩ := HWR.out.some (k := k) (by omega)
              rw [List.getElem_map] at cw
              have hx := HWX.out _ (List.getElem_mem hkw)
              have ht := HTL.out k hku
              rw [getD_get hkw, getD_get hku] at ht
              obtain ⟨x, hxe⟩ : ∃ x, x = Wh[k] := ⟨_, rfl⟩
              rw [← hxe] at cw hx ht
              obtain ⟨bu, ou, rfl, hu'⟩ := HU.out.some hku
              have cu := hu' k hku
              have hbu := World.block_lt_of_cell? w _ cu
              simp only at hbu
              obtain ⟨v, hv⟩ : ∃ v : Nat, v = u[k] := ⟨_, rfl⟩
              rw [← hv] at cu ht
              have hxR : x < R.length := by omega
              have cb := HT.out.cell hxR
              rw [ht] at cb
              have dw := (HT.out.old (p := ⟨bw, ow + k, none⟩) (by show bw < _; omega) (by show bw ≠ _; omega)).trans ((HLOW.out.cell (p := ⟨bw, ow + k, none⟩) hbw).trans cw)
              have du := (HT.out.old (p := ⟨bu, ou + k, none⟩) (by show bu < _; omega) (by show bu ≠ _; omega)).trans ((HBW.out.cell (p := ⟨bu, ou + k, none⟩) hbu).trans cu)
              have hd1 : decide ((x : Int) < 0) = false := decide_eq_false (by omega)
              have hd2 : decide ((es.length : Int) ≤ (x : Int)) = false := decide_eq_false (by omega)
              have hxz : (x : Int) < (es.length : Int) := by omega
              have hkz : (k : Int) < (u.length : Int) := by omega
              have HT9 : Hid (∀ n, BoardAt W (wr.drewN n) T R) := fun n => HT.out.drewN n
              clear hxe hv ht cw cu hu' HT
              go_wp2_with fail
              go_quiet (fail)
              go_wp2_with fail
              go_roundw
              case rel => exact ⟨k + 1, by omega, by go_num, HT9.out _⟩
              case measure => simp [intOf]; omega
            · obtain rfl : k = u.length := by omega
              have HBE : Hid (Below w.heap.size w wr) := HBW.out.trans (HT.out.fr.below HBW.out.size (fun k hk => by omega))
              go_wp2_with fail
              go_ret
              exact ⟨by simp, HBE.out⟩
end Go.Proofs.Ytacncbojplmcjaa
end

section
namespace Go.Proofs.Ytacncbojplmcjaa
open Go.ChangeShapes Go.WideShapes Go.ChangeAt Go.RowKit Go.Joins
set_option linter.unusedVariables false

theorem solveTells_walk (HCC : SolC) (a : Option Addr) (cap : Nat) (es : Eqz) (a1 : Option Addr) (cap1 : Nat) (u : List Nat) (w : World) (hs : Er w a cap es) (hu : Sl w a1 cap1 u) :
    Calls Try.prog 4 #[.slice a es.length cap, .slice a1 u.length cap1] w (TrueAnd w) := by
  by_cases hF : ¬ FewP es ∨ 60 < u.length
  · exact tells_out HCC a cap es a1 cap1 u w hs hu hF
  · have hf : FewP es := Classical.byContradiction fun h => hF (.inl h)
    have hn : u.length ≤ 60 := by
      have : ¬ 60 < u.length := fun h => hF (.inr h)
      omega
    by_cases hR : RightP es (u.length : Int)
    · by_cases hk : rkE es u.length = u.length
      · exact tells_full HCC a cap es a1 cap1 u w hs hu hf hn hR hk
      · have hle := rkE_le es u.length
        exact tells_none HCC 9 (.inr rfl) a cap es a1 cap1 u w hs hu hf hn fun w h => HCC.low a cap es u.length w h hR (by omega)
    · exact tells_none HCC 1 (.inl rfl) a cap es a1 cap1 u w hs hu hf hn fun w h => HCC.bad a cap es (u.length : Int) w (by omega) h hR
end Go.Proofs.Ytacncbojplmcjaa
end

section
namespace Go.Proofs.Ytacncbojplmcjaa
theorem solC_all : SolC := solC
end Go.Proofs.Ytacncbojplmcjaa
end
