/-
  PacketSets, walked.
-/
import Derived.Test.YtechekkojinkmaaDoorMp31
section
namespace Go.Proofs.YtechekkojinkmaaDoor
open Go.ChangeShapes Go.WideShapes Go.ChangeAt Go.RowKit Go.Joins
set_option linter.unusedVariables false

theorem lacks_part {S : St} {F : List Pw} {k : Nat} (hF : F.map (·.p) = dirS S) (hk : k < F.length) : ∀ f ∈ F.take k ++ F.drop (k + 1), partOf f.p ≠ partOf F[k].p := by
  have hn : (F.map fun f => partOf f.p).Nodup := by
    have h1 : F.map (fun f => partOf f.p) = (F.map (·.p)).map partOf := by rw [List.map_map]; rfl
    rw [h1, hF]
    unfold dirS
    rw [List.map_map]
    exact parts_nodup S _
  have hp := List.pairwise_iff_getElem.1 hn
  intro f hf e
  rcases List.mem_append.1 hf with h | h
  · obtain ⟨i, hi, rfl⟩ := List.mem_iff_getElem.1 h
    rw [List.length_take] at hi
    rw [List.getElem_take] at e
    have := hp i k (by rw [List.length_map]; omega) (by rw [List.length_map]; omega) (by omega)
    rw [List.getElem_map, List.getElem_map] at this
    exact this e
  · obtain ⟨i, hi, rfl⟩ := List.mem_iff_getElem.1 h
    rw [List.length_drop] at hi
    rw [List.getElem_drop] at e
    have := hp k (k + 1 + i) (by rw [List.length_map]; omega) (by rw [List.length_map]; omega) (by omega)
    rw [List.getElem_map, List.getElem_map] at this
    exact this e.symm
theorem setArr_one (S : St) (fa : Option Addr) (fc : Nat) (sa : Option Addr) (sc : Nat) : (rowArr 3 (setV S fa fc sa sc)).all (·.oneCell') = true := by
  simp [rowArr, List.range_succ, setV, Value.oneCell']

set_option maxRecDepth 1000000 in
set_option maxHeartbeats 32000000 in
theorem packetSets_walk (S : St) (fa : Option Addr) (fc : Nat) (sa : Option Addr) (sc : Nat) (z : Int) (pa : Option Addr) (pc : Nat) (O : List Pw) (w : World) (hs : SetAt w S fa fc sa sc) (hsn : sa = none → sc = 0) (hz0 : 0 ≤ z) (hz1 : z ≤ 255) (hO : PkSl w pa pc O) (hm : Mx w) (ht : Tabs w) :
    Calls Tryd.prog 3 #[.agg (rowArr 3 (setV S fa fc sa sc)), .int .u8 z, .slice pa O.length pc] w (TrueAnd w) := by
  have mixed : Tryd.prog.follows .mixedOrders = true := by kernel_rfl
  have holm := hO.lt
  have hb0 : Below w.heap.size w (w.alloc (.cells (rowArr 3 (setV S fa fc sa sc)) 25)) := (Below.refl _ _).alloc (Nat.le_refl _) _
  have HB0 := Lib.hid hb0
  have hx0 : (w.alloc (.cells (rowArr 3 (setV S fa fc sa sc)) 25)).heap[w.heap.size]? = some (.cells (rowArr 3 (setV S fa fc sa sc)) 25 (0, 0)) := heap_alloc_last w _
  obtain ⟨arr, harr⟩ : ∃ arr, arr = rowArr 3 (setV S fa fc sa sc) := ⟨_, rfl⟩
  have HAE := Lib.hid harr
  have HAR : Hid (arr.size = 3) := by show _ = _; rw [harr, rowArr_size]
  rw [← harr] at hx0 hb0 HB0
  have HX0 := Lib.hid hx0
  have HS := Lib.hid (hs.below hb0)
  have HO := Lib.hid (hO.below hb0)
  have HM := Lib.hid (hm.below hb0)
  have HT := Lib.hid (ht.below hb0)
  have HSN := Lib.hid hsn
  have HAW := Lib.hid (awake14_any _ (ht.below hb0))
  obtain ⟨PQ, hPQ⟩ : ∃ PQ, PQ = TrueAnd w := ⟨_, rfl⟩
  have HT1 : Hid (∀ w', Below w.heap.size w w' → PQ (.returned (.bool true)) w') := by
    show ∀ _, _
    rw [hPQ]; exact fun w' h => ⟨rfl, h⟩
  rw [← hPQ]
  rw [← harr]
  clear harr hb0 hs hO hm ht hPQ hx0 hsn
  go_enter Tryd.func3, Tryd.ntmps3
  go_upto_region 1 with fail
  obtain ⟨b, hb⟩ : ∃ b, b = w.heap.size := ⟨_, rfl⟩
  rw [← hb] at HX0 ⊢
  generalize w.alloc (.cells arr 25) = w1 at *
  clear hb
  have hbl : b < w1.heap.size := (Array.getElem?_eq_some_iff.1 HX0.out).1
  have VA : Hid (rowArr 3 (setV S fa fc sa sc) = arr) := HAE.out.symm
  have HCS : Hid (∀ w', Below w1.heap.size w1 w' → ∀ j, j < 3 → w'.cell? ⟨b, 0 + j, none⟩ = some (setV S fa fc sa sc j)) := fun w' h j hj => by
    rw [cell_of_block ((h.block b hbl).trans HX0.out), Nat.zero_add, ← VA.out]
    simp [rowArr, hj]
  by_cases q : ¬ FewS S ∨ 10 < O.length
  · -- too many: awake again
    have HE : Hid (∀ w', Below w1.heap.size w1 w' → Calls Tryd.prog 5 #[] w' fun e w'' => e = .returned (.bool true) ∧ Below w'.heap.size w' w'') := fun w' h => awake14_any w' (HT.out.below h)
    by_cases q1 : FewS S
    · have q2 : 10 < O.length := q.resolve_left (fun h => h q1)
      have d1 : decide (10 < O.length) = true := decide_eq_true q2
      have d2 : decide ((10 : Int) < (O.length : Int)) = true := decide_eq_true (by omega)
      have HFW : Hid (∀ w', Below w1.heap.size w1 w' → Calls Tryd.prog 6 #[.agg arr] w' fun e w'' => e = .returned (.bool true) ∧ Below w'.heap.size w' w'') := fun w' h => by
        have := fewSet_any S fa fc sa sc w' (HS.out.below h)
        rw [VA.out] at this
        exact this.mono fun e w'' ⟨r, ⟨he, hb⟩, hr⟩ => ⟨by rw [he, hr.2 q1], hb⟩
      go_upto_region 2 with (first
        | (go_at_call 5; (with_reducible refine HAW.out.mono ?_); rintro e w2 ⟨rfl, b2⟩; have HB2 := Lib.hid b2; clear b2 HAW; have HFW2 := Lib.hid (HFW.out w2 HB2.out))
        | (refine wpList_load_v (by rfl) 25 _ rfl b 0 3 _ arr VA.out rfl _ (HCS.out _ HB2.out) Tryd.underlying25 rfl (by kernel_rfl) ?_)
        | (go_at_call 6; (with_reducible refine HFW2.out.mono ?_); rintro e w3 ⟨rfl, b3⟩; have HB3 := Lib.hid (HB2.out.trans (b3.mono HB2.out.size)); clear b3 HFW2))
      have HE3 := Lib.hid (HE.out w3 HB3.out)
      go_wp2_with (go_at_call 5; (with_reducible refine HE3.out.mono ?_); rintro e w4 ⟨rfl, b4⟩; have HB4 := Lib.hid (HB3.out.trans (b4.mono HB3.out.size)); clear b4 HE3)
      exact HT1.out _ (HB0.out.trans (HB4.out.mono HB0.out.size))
    · have HFW : Hid (∀ w', Below w1.heap.size w1 w' → Calls Tryd.prog 6 #[.agg arr] w' fun e w'' => e = .returned (.bool false) ∧ Below w'.heap.size w' w'') := fun w' h => by
        have := fewSet_any S fa fc sa sc w' (HS.out.below h)
        rw [VA.out] at this
        exact this.mono fun e w'' ⟨r, ⟨he, hb⟩, hr⟩ => ⟨by rw [he, Bool.eq_false_iff.2 fun h => q1 (hr.1 h)], hb⟩
      clear q
      go_upto_region 2 with (first
        | (go_at_call 5; (with_reducible refine HAW.out.mono ?_); rintro e w2 ⟨rfl, b2⟩; have HB2 := Lib.hid b2; clear b2 HAW; have HFW2 := Lib.hid (HFW.out w2 HB2.out))
        | (refine wpList_load_v (by rfl) 25 _ rfl b 0 3 _ arr VA.out rfl _ (HCS.out _ HB2.out) Tryd.underlying25 rfl (by kernel_rfl) ?_)
        | (go_at_call 6; (with_reducible refine HFW2.out.mono ?_); rintro e w3 ⟨rfl, b3⟩; have HB3 := Lib.hid (HB2.out.trans (b3.mono HB2.out.size)); clear b3 HFW2))
      have HE3 := Lib.hid (HE.out w3 HB3.out)
      go_wp2_with (go_at_call 5; (with_reducible refine HE3.out.mono ?_); rintro e w4 ⟨rfl, b4⟩; have HB4 := Lib.hid (HB3.out.trans (b4.mono HB3.out.size)); clear b4 HE3)
      exact HT1.out _ (HB0.out.trans (HB4.out.mono HB0.out.size))
  have q1 : FewS S := Classical.byContradiction fun h => q (.inl h)
  have q2 : ¬ 10 < O.length := fun h => q (.inr h)
  have d1 : decide (10 < O.length) = false := decide_eq_false q2
  have d2 : decide ((10 : Int) < (O.length : Int)) = false := decide_eq_false (by omega)
  have hO10 : O.length ≤ 10 := by omega
  have HFW : Hid (∀ w', Below w1.heap.size w1 w' → Calls Tryd.prog 6 #[.agg arr] w' fun e w'' => e = .returned (.bool true) ∧ Below w'.heap.size w' w'') := fun w' h => by
    have := fewSet_any S fa fc sa sc w' (HS.out.below h)
    rw [VA.out] at this
    exact this.mono fun e w'' ⟨r, ⟨he, hb⟩, hr⟩ => ⟨by rw [he, hr.2 q1], hb⟩
  clear q
  go_upto_region 3 with (first
        | (go_at_call 5; (with_reducible refine HAW.out.mono ?_); rintro e w2 ⟨rfl, b2⟩; have HB2 := Lib.hid b2; clear b2 HAW; have HFW2 := Lib.hid (HFW.out w2 HB2.out))
        | (refine wpList_load_v (by rfl) 25 _ rfl b 0 3 _ arr VA.out rfl _ (HCS.out _ HB2.out) Tryd.underlying25 rfl (by kernel_rfl) ?_)
        | (go_at_call 6; (with_reducible refine HFW2.out.mono ?_); rintro e w3 ⟨rfl, b3⟩; have HB3 := Lib.hid (HB2.out.trans (b3.mono HB2.out.size)); clear b3 HFW2 HB2))
  clear d1 d2 HFW q2
  have hdr := directory_any S fa fc sa sc w3 (HS.out.below HB3.out) (HM.out.below HB3.out) (HT.out.below HB3.out) HSN.out
  rw [VA.out] at hdr
  have HDR := Lib.hid hdr
  clear hdr
  by_cases hF : FormedP S
  case' neg =>
    have HNF := Lib.hid hF
    clear hF
    obtain ⟨ZA, hZA⟩ : ∃ ZA, ZA = z8A := ⟨_, rfl⟩
    have HZE : Hid (z8A = ZA) := hZA.symm
    have HZs : Hid (ZA.size = 8) := by show _ = _; rw [hZA]; rfl
    have HZ1 : Hid (ZA.all (·.oneCell') = true) := by show _ = _; rw [hZA]; kernel_rfl
    clear hZA
    go_upto_region 4 with (first
      | (refine wpList_load_v (by rfl) 25 _ rfl b 0 3 _ arr VA.out rfl _ (HCS.out _ HB3.out) Tryd.underlying25 rfl (by kernel_rfl) ?_)
      | (go_at_call 7; (with_reducible refine HDR.out.mono ?_); rintro e w4 ⟨_, hn⟩; obtain ⟨rfl, b4⟩ := hn HNF.out; have HB4 := Lib.hid (HB3.out.trans ((b4.mono (Nat.le_refl _)).mono HB3.out.size)); clear b4 hn HDR))
    have hnm := name14_any S fa fc sa sc w4 (HS.out.below HB4.out) (HM.out.below HB4.out) (HT.out.below HB4.out) HSN.out
    rw [VA.out] at hnm
    have HNM : Hid (Calls Tryd.prog 8 #[.agg arr] w4 fun e w' => e = .returned (.tuple #[.agg ZA, .int .i64 1]) ∧ Below w4.heap.size w4 w') := hnm.mono fun e w' ⟨⟨_, hn⟩, hb⟩ => ⟨by rw [hn HNF.out, HZE.out], hb⟩
    clear hnm
    go_upto_region 5 with (first
      | (refine wpList_load_v (by rfl) 25 _ rfl b 0 3 _ arr VA.out rfl _ (HCS.out _ HB4.out) Tryd.underlying25 rfl (by kernel_rfl) ?_)
      | (go_at_call 8; (with_reducible refine HNM.out.mono ?_); rintro e w5 ⟨rfl, b5⟩; have HB5 := Lib.hid (HB4.out.trans (b5.mono HB4.out.size)); clear b5 HNM; have HALL : Hid (∀ c : Array Value, (w5.alloc (.cells c 32)).heap[w5.heap.size]? = some (.cells c 32 (0, 0))) := (fun c => heap_alloc_last w5 _); have HALB : Hid (∀ c : Array Value, Below w5.heap.size w5 (w5.alloc (.cells c 32))) := (fun c => (Below.refl _ _).alloc (Nat.le_refl _) _))
      | (refine wpList_store_arr rfl 32 _ _ rfl w5.heap.size ZA rfl rfl 32 _ (HALL.out _) (by rw [HZs.out]; kernel_rfl) (by rw [HZs.out]; rfl) HZ1.out ?_; intro w6 HC6 hf6; have HB6 : Hid (Below w1.heap.size w1 w6) := HB5.out.trans (((HALB.out _).trans (hf6.out.below (HALB.out _).size (fun k hk e => by omega))).mono HB5.out.size); clear hf6 HALL HALB))
    have hrf := refFormed_any S fa fc sa sc w6 (HS.out.below HB6.out)
    rw [VA.out] at hrf
    have HRF : Hid (Calls Tryd.prog 9 #[.agg arr] w6 fun e w' => e = .returned (.bool false) ∧ Below w6.heap.size w6 w') := hrf.mono fun e w' ⟨⟨r, he, hr⟩, hb⟩ => ⟨by rw [he, Bool.eq_false_iff.2 fun h => HNF.out (hr.1 h)], hb⟩
    clear hrf
    go_upto_region 6 with (first
      | (refine wpList_load_v (by rfl) 25 _ rfl b 0 3 _ arr VA.out rfl _ (HCS.out _ HB6.out) Tryd.underlying25 rfl (by kernel_rfl) ?_)
      | (go_at_call 9; (with_reducible refine HRF.out.mono ?_); rintro e w7 ⟨rfl, b7⟩; have HB7 := Lib.hid (HB6.out.trans (b7.mono HB6.out.size)); clear b7 HRF))
    have hpf := formed_any S fa fc sa sc w7 (HS.out.below HB7.out) (HM.out.below HB7.out)
    rw [VA.out] at hpf
    have HPF : Hid (Calls Tryd.prog 10 #[.agg arr] w7 fun e w' => e = .returned (.bool false) ∧ Below w7.heap.size w7 w') := hpf.mono fun e w' ⟨⟨r, he, hr⟩, hb⟩ => ⟨by rw [he, Bool.eq_false_iff.2 fun h => HNF.out (hr.1 h)], hb⟩
    clear hpf
    go_wp2_with (first
      | (refine wpList_load_v (by rfl) 25 _ rfl b 0 3 _ arr VA.out rfl _ (HCS.out _ HB7.out) Tryd.underlying25 rfl (by kernel_rfl) ?_)
      | (go_at_call 10; (with_reducible refine HPF.out.mono ?_); rintro e w8 ⟨rfl, b8⟩; have HB8 := Lib.hid (HB7.out.trans (b8.mono HB7.out.size)); clear b8 HPF))
    exact HT1.out _ (HB0.out.trans (HB8.out.mono HB0.out.size))
  have HFO := Lib.hid hF
  clear hF
  go_upto_region 4 with (first
      | (refine wpList_load_v (by rfl) 25 _ rfl b 0 3 _ arr VA.out rfl _ (HCS.out _ HB3.out) Tryd.underlying25 rfl (by kernel_rfl) ?_)
      | (go_at_call 7; (with_reducible refine HDR.out.mono ?_); rintro e w4 ⟨hn, _⟩; obtain ⟨v, F, rfl, hp4, hf4⟩ := hn HFO.out; have HP4 := Lib.hid hp4; have HF4 := Lib.hid hf4; have HB4 := Lib.hid (HB3.out.trans (hp4.below.mono HB3.out.size)); clear hp4 hf4 hn HDR))
  have hFl : F.length = 2 * S.files.length + 1 := by rw [← dirS_len S, ← HF4.out, List.length_map]
  have hFN : F.length ≤ 17 := by have := HFO.out.f2; omega
  have hFp : 0 < F.length := by omega
  obtain ⟨av, cv, rfl, hac, hacm⟩ := HP4.out.own.slice
  obtain ⟨g0, rfl, hg0, hcx⟩ := HP4.out.own.cells hFp
  have HSL4 := Lib.hid HP4.out.sl
  obtain ⟨QA, hQA⟩ : ∃ QA, QA = rowArr 8 (vOf (nameS S)) := ⟨_, rfl⟩
  have VQ : Hid (rowArr 8 (vOf (nameS S)) = QA) := hQA.symm
  have HQs : Hid (QA.size = 8) := by show _ = _; rw [hQA, rowArr_size]
  have HQ1 : Hid (QA.all (·.oneCell') = true) := by show _ = _; rw [hQA]; exact oneCell_v _ 8
  have N8 : Hid ((nameS S).length = 8) := nameOf_len _
  have NB : Hid (IsByte (nameS S)) := nameOf_byte _
  have hnm := name14_any S fa fc sa sc w4 (HS.out.below HB4.out) (HM.out.below HB4.out) (HT.out.below HB4.out) HSN.out
  rw [VA.out] at hnm
  have HNM : Hid (Calls Tryd.prog 8 #[.agg arr] w4 fun e w' => e = .returned (.tuple #[.agg QA, .int .i64 0]) ∧ Below w4.heap.size w4 w') := hnm.mono fun e w' ⟨⟨hn, _⟩, hb⟩ => ⟨by rw [hn HFO.out, VQ.out], hb⟩
  clear hnm hQA hcx hFl HB3
  go_upto_region 5 with (first
      | (refine wpList_load_v (by rfl) 25 _ rfl b 0 3 _ arr VA.out rfl _ (HCS.out _ HB4.out) Tryd.underlying25 rfl (by kernel_rfl) ?_)
      | (go_at_call 8; (with_reducible refine HNM.out.mono ?_); rintro e w5 ⟨rfl, b5⟩; have HB5 := Lib.hid b5; clear b5 HNM; have HALL : Hid (∀ c : Array Value, (w5.alloc (.cells c 32)).heap[w5.heap.size]? = some (.cells c 32 (0, 0))) := (fun c => heap_alloc_last w5 _); have HALB : Hid (∀ c : Array Value, Below w5.heap.size w5 (w5.alloc (.cells c 32))) := (fun c => (Below.refl _ _).alloc (Nat.le_refl _) _))
      | (refine wpList_store_arr rfl 32 _ _ rfl w5.heap.size QA rfl rfl 32 _ (HALL.out _) (by rw [HQs.out]; kernel_rfl) (by rw [HQs.out]; rfl) HQ1.out ?_; intro w6 HC6 hf6; have HB46 : Hid (Below w4.heap.size w4 w6) := HB5.out.trans (((HALB.out _).trans (hf6.out.below (HALB.out _).size (fun k hk e => by omega))).mono HB5.out.size); clear hf6 HALL HALB))
  obtain ⟨g9, hg9⟩ : ∃ g9, g9 = w5.heap.size := ⟨_, rfl⟩
  rw [← hg9] at HC6
  rw [← hg9]
  have HB6 := Lib.hid (HB4.out.trans (HB46.out.mono HB4.out.size))
  clear hg9 HB5
  have hrf := refFormed_any S fa fc sa sc w6 (HS.out.below HB6.out)
  rw [VA.out] at hrf
  have HRF : Hid (Calls Tryd.prog 9 #[.agg arr] w6 fun e w' => e = .returned (.bool true) ∧ Below w6.heap.size w6 w') := hrf.mono fun e w' ⟨⟨r, he, hr⟩, hb⟩ => ⟨by rw [he, hr.2 HFO.out], hb⟩
  clear hrf
  go_upto_region 7 with (first
      | (refine wpList_load_v (by rfl) 25 _ rfl b 0 3 _ arr VA.out rfl _ (HCS.out _ HB6.out) Tryd.underlying25 rfl (by kernel_rfl) ?_)
      | (go_at_call 9; (with_reducible refine HRF.out.mono ?_); rintro e w7 ⟨rfl, b7⟩; have HB67 := Lib.hid b7; clear b7 HRF))
  have HB7 := Lib.hid (HB6.out.trans (HB67.out.mono HB6.out.size))
  have HC7 : Hid (w7.heap[g9]? = some (.cells QA 32 (0, 0))) := (HB67.out.block g9 (Array.getElem?_eq_some_iff.1 HC6.out).1).trans HC6.out
  have HB47 := Lib.hid (HB46.out.trans (HB67.out.mono HB46.out.size))
  have HC8 : Hid (∀ j, j < 8 → w7.cell? ⟨g9, 0 + j, none⟩ = some (vOf (nameS S) j)) := fun j hj => by
    rw [cell_of_block HC7.out, Nat.zero_add, ← VQ.out]
    simp [rowArr, hj]
  have HC3 := Lib.hid (HCS.out w7 HB7.out)
  have nn : ∀ w, (binOp .neq 32 (.agg QA) (.agg QA)).run Tryd.prog w = .ok (.bool false) w := fun w => by
    rw [run_neq_struct, ← VQ.out, eq_arr Tryd.underlying32 NB.out NB.out N8.out N8.out 9998 w]
    simp [Result.andThen]
  have CN1 := fun d os => Calls.regrown_of (v := .bool true) ((formed_any S fa fc sa sc (Go.Sort.grow (redrawn w7 d) os) ((HS.out.below HB7.out).below (below_regrown w7 d os)) ((HM.out.below HB7.out).below (below_regrown w7 d os))).mono fun e w' ⟨⟨r, he, hr⟩, hb⟩ => ⟨by rw [he, hr.2 HFO.out], hb⟩)
  have CN2 := fun d os => Calls.regrown_of (v := .agg QA) ((refName14_any S fa fc sa sc (Go.Sort.grow (redrawn w7 d) os) ((HS.out.below HB7.out).below (below_regrown w7 d os)) HFO.out).mono fun e w' ⟨he, hb⟩ => ⟨by rw [he, VQ.out], hb⟩)
  rw [VA.out] at CN1 CN2
  have hb7 : b < w7.heap.size := Nat.lt_of_lt_of_le hbl HB7.out.size
  have hg97 : g9 < w7.heap.size := (Array.getElem?_eq_some_iff.1 HC7.out).1
  clear HB46 HB67 HC6 HB6
  refine wp_region_quiet_below mixed (by kernel_rfl) ?_
  repeat (first
    | (refine wpQuiet_load_v (by rfl) 25 _ rfl b 0 3 _ arr VA.out rfl _ (fun w hw j hj => by obtain ⟨⟨d, os⟩, rfl⟩ := hw; exact ((below_regrown w7 d os).cell (p := ⟨b, 0 + j, none⟩) hb7).trans (HC3.out j hj)) Tryd.underlying25 rfl (by kernel_rfl) ?_)
    | (refine wpQuiet_load_v (by rfl) 32 _ rfl g9 0 8 _ QA VQ.out rfl _ (fun w hw j hj => by obtain ⟨⟨d, os⟩, rfl⟩ := hw; exact ((below_regrown w7 d os).cell (p := ⟨g9, 0 + j, none⟩) hg97).trans (HC8.out j hj)) Tryd.underlying32 rfl (by kernel_rfl) ?_)
    | go_big_quiet_step (first | exact CN1 _ _ | exact CN2 _ _) | quiet_step (first | exact CN1 _ _ | exact CN2 _ _))
  refine wpQuiet_nil ?_
  intro _ hw'
  obtain ⟨⟨dq, osq⟩, hw''⟩ := hw'
  subst hw''
  have HB48 : Hid (Below w4.heap.size w4 (Go.Sort.grow (redrawn w7 dq) osq)) := HB47.out.trans ((below_regrown w7 dq osq).mono HB47.out.size)
  have HC9 : Hid ((Go.Sort.grow (redrawn w7 dq) osq).heap[g9]? = some (.cells QA 32 (0, 0))) := ((below_regrown w7 dq osq).block g9 hg97).trans HC7.out
  clear CN1 CN2 nn HC8 HC3 HC7 HB47 HB7 hb7 hg97
  generalize Go.Sort.grow (redrawn w7 dq) osq = w8 at *
  obtain ⟨D, hD⟩ : ∃ D, D = dirTo S S.files.length := ⟨_, rfl⟩
  have HDE := Lib.hid hD
  have HDI : Hid (DirIn S) := ⟨HS.out.slice, HS.out.files.rng, HS.out.slices.rng, HFO.out.s1, HFO.out.s2, HFO.out.m1, HFO.out.f2⟩
  obtain ⟨dk1, dk2⟩ := dir_ok HDI.out HFO.out.good
  have hcost : costN (dirTo S S.files.length) ≤ 5000 := by have := HFO.out.f2; have := HFO.out.m1; omega
  rw [← hD] at dk1 hcost
  have HDO : Hid (∀ p ∈ D, PkIn p ∧ pkOk p) := fun p hp => ⟨(dk1 p hp).1, (dk1 p hp).2.1⟩
  have HCO := Lib.hid hcost
  have HFD : Hid (F.map (·.p) = D.map (withSet (nameS S))) := by show _ = _; rw [HF4.out, hD]; rfl
  have hDl : D.length = F.length := by have := congrArg List.length HFD.out; simpa using this.symm
  have HDL := Lib.hid hDl
  have hFN63 : F.length ≤ 9223372036854775807 := by omega
  clear hD dk1 dk2 hcost hDl
  have HA0 : Hid (Acc w8 w8 (.slice none 0 0) (idxN (nameS S) (D.take 0))) := ⟨OwnB.nil _, fun j hj => (by cases hj), Below.refl _ _⟩
  go_upto_region 9 with fail
  go_wp2_with fail
  go_loopw [11, 84] (fun t i wr => ∃ k : Nat, k ≤ F.length ∧ i = .int .i64 k ∧ Hid (Acc w8 wr t (idxN (nameS S) (D.take k)))) (fun _ i _ => F.length - (intOf i).toNat)
  case atStart => exact ⟨0, by omega, rfl, HA0⟩
  case round =>
    obtain ⟨k, hk, rfl, HA⟩ := hrel
    clear HA0
    have HB4r : Hid (Below w4.heap.size w4 wr) := HB48.out.trans (HA.out.below.mono HB48.out.size)
    have HB1r : Hid (Below w1.heap.size w1 wr) := HB4.out.trans (HB4r.out.mono HB4.out.size)
    by_cases hlt : k < F.length
    · have hltD : k < D.length := by rw [HDL.out]; exact hlt
      have hPk := HSL4.out.below HB4r.out
      obtain ⟨_, _, ep, _, hx⟩ := pks_one hPk hlt
      cases ep
      have hpk := hPk.pks _ (List.getElem_mem hlt)
      have hfp : F[k].p = withSet (nameS S) D[k] := by
        have h1 : (F.map (·.p))[k]? = (D.map (withSet (nameS S)))[k]? := by rw [HFD.out]
        rw [List.getElem?_map, List.getElem?_map, List.getElem?_eq_getElem hlt, List.getElem?_eq_getElem hltD] at h1
        exact Option.some.inj h1
      have hdk := HDO.out D[k] (List.getElem_mem hltD)
      have hc1 := costN_one hltD
      have hn1 := idxN_next (nm := nameS S) hltD
      have hal := idxN_len N8.out (l := D.take k) (fun x hx => HDO.out x (List.mem_of_mem_take hx))
      rw [List.length_take] at hal
      have hq := HCO.out
      have hbl2 := bytes_len N8.out D[k].kind (pkBody D[k])
      have hle := body_len14 hdk.1 hdk.2
      obtain ⟨f, hf⟩ : ∃ f, f = F[k] := ⟨_, rfl⟩
      rw [← hf] at hx hpk hfp
      have hok : pkOk f.p := by rw [hfp]; exact hdk.2
      have htq : tellQ f.p ≤ 15000 := by rw [hfp]; show tellQ D[k] ≤ 15000; omega
      have hby : pkBytes f.p = bytesN (nameS S) D[k].kind (pkBody D[k]) := by rw [hfp]; rfl
      have hen := encode_any f.p f.sa f.sc f.da f.dc wr hpk htq (HT.out.below HB1r.out)
      obtain ⟨Y, hY⟩ : ∃ Y, Y = pkBytes f.p := ⟨_, rfl⟩
      have hYl : Y.length ≤ 10000 := by rw [hY, hby]; omega
      have HN1 : Hid (idxN (nameS S) (D.take (k + 1)) = idxN (nameS S) (D.take k) ++ Y) := by show _ = _; rw [hn1, hY, hby]
      obtain ⟨AQ, hAQ⟩ : ∃ AQ, AQ = rowArr 51 (pwV f) := ⟨_, rfl⟩
      have VQ2 : Hid (rowArr 51 (pwV f) = AQ) := hAQ.symm
      rw [show rowArr 51 (pkV f.p f.sa f.sc f.da f.dc) = AQ from VQ2.out] at hen
      obtain ⟨W, hW⟩ : ∃ W, W = idxN (nameS S) (D.take k) := ⟨_, rfl⟩
      rw [← hW] at HN1 HA hal
      have hWl : W.length + Y.length ≤ 30000 := by omega
      have HWL := Lib.hid hWl
      have HYE := Lib.hid hY
      have HEN : Hid (Calls Tryd.prog 12 #[.agg AQ] wr fun e w' => ∃ a c, e = .returned (.tuple #[.slice a Y.length c, .int .i64 0]) ∧ Sl w' a c Y ∧ Below wr.heap.size wr w') := hen.mono fun e w' ⟨hb, h1, _⟩ => by
        obtain ⟨a, c, he, hs⟩ := h1 hok
        exact ⟨a, c, by rw [he, hY], by rw [hY]; exact hs, hb⟩
      have HXC := Lib.hid hx
      clear hPk hpk hfp hdk hc1 hn1 hal hq hbl2 hle hf hok htq hby hen hY hYl hAQ hW hWl hx hltD
      go_upto_region 14 with (first
        | (refine wpList_load_v (by rfl) 44 _ rfl g0 (0 + k * 51) 51 _ AQ VQ2.out rfl _ HXC.out Tryd.underlying44 rfl (by kernel_rfl) ?_)
        | (refine wpList_load_v (by rfl) 44 _ rfl g0 (0 + k * 51) 51 _ AQ VQ2.out (by go_simp) _ HXC.out Tryd.underlying44 rfl (by kernel_rfl) ?_)
        | (go_at_call 12; (with_reducible refine HEN.out.mono ?_); rintro e w9 ⟨a9, c9, rfl, hs9, b9⟩; obtain ⟨l9, hl9⟩ : ∃ l9, l9 = Y.length := ⟨_, rfl⟩; rw [← hl9]; have HS9 := Lib.hid hs9; have HB9 := Lib.hid b9; have HL9 := Lib.hid hl9; have HA9 := Lib.hid (HA.out.later HB9.out); clear hs9 b9 hl9 HEN))
      go_wp2_with (at_builtin; refine wpList_acc _ rfl _ _ rfl u11 W rfl HA9.out a9 c9 l9 Y rfl HL9.out.symm HS9.out (by have := HWL.out; omega) ?_; intro v10 w10 HA10)
      rw [← HN1.out] at HA10
      go_roundw
      case rel => exact ⟨k + 1, by omega, by go_num, HA10⟩
      case measure => simp [intOf]; omega
    · obtain rfl : k = F.length := by omega
      rw [← HDL.out, List.take_length] at HA
      have hal := idxN_len N8.out (l := D) HDO.out
      have hTb : IsByte (idxN (nameS S) D) := by
        intro x hx
        obtain ⟨l, hl, hxl⟩ := List.mem_flatten.1 hx
        obtain ⟨p, hp, rfl⟩ := List.mem_map.1 hl
        exact bytesN_byte NB.out (body_isByte (HDO.out p hp).1) x hxl
      have hco := HCO.out
      have hdl := HDL.out
      obtain ⟨T, hT⟩ : ∃ T, T = idxN (nameS S) D := ⟨_, rfl⟩
      have HTE := Lib.hid hT
      rw [← hT] at HA hal hTb
      have hTl : T.length ≤ 10000 := by omega
      obtain ⟨ta, tc, hv, hsl, hpx⟩ := HA.out.own.sl hTb
      obtain ⟨tl, htl⟩ : ∃ tl, tl = T.length := ⟨_, rfl⟩
      rw [← htl] at hv
      subst hv
      have HSLT := Lib.hid hsl
      have HTL := Lib.hid htl
      have HTB := Lib.hid hTb
      obtain ⟨STR, hSTR⟩ : ∃ STR, STR = strOf T := ⟨_, rfl⟩
      obtain ⟨wd, hwd⟩ : ∃ wd, wd = wr.drew := ⟨_, rfl⟩
      have HBd : Hid (Below wr.heap.size wr wd) := by rw [hwd]; exact (Below.refl _ _).drew
      have HB1d : Hid (Below w1.heap.size w1 wd) := HB1r.out.trans (HBd.out.mono HB1r.out.size)
      have HB4d : Hid (Below w4.heap.size w4 wd) := HB4r.out.trans (HBd.out.mono HB4r.out.size)
      have HB8d : Hid (Below w8.heap.size w8 wd) := HA.out.below.trans (HBd.out.mono HA.out.below.size)
      have hbd : b < wd.heap.size := Nat.lt_of_lt_of_le hbl HB1d.out.size
      have kcv : ∀ u : KeepW wd (fun _ => False), (convert 36 9 (.slice ta tl tc)).run Tryd.prog u.v = .ok (.string STR) u.v := fun u => by
        have h1 : Sl u.v ta tc T := (hsl.below HBd.out).below (u.h.below (Nat.le_refl _) (fun _ _ h => h))
        rw [hSTR, htl]; exact conv_sl _ _ _ _ h1
      have KS : Hid (∀ u : KeepW wd (fun _ => False), ∀ j, j < 3 → u.v.cell? ⟨b, 0 + j, none⟩ = some (setV S fa fc sa sc j)) := fun u j hj => (u.cell hbd (fun h => h)).trans (HCS.out wd HB1d.out j hj)
      have hix := refIndex_any S fa fc sa sc wd (HS.out.below HB1d.out) HFO.out
      rw [VA.out, ← HDE.out] at hix
      have HIX := Lib.hid hix
      have HSTR := Lib.hid hSTR
      clear hal hTb hco hdl hT hTl hpx hsl htl hSTR hix HA hbd
      go_upto_region 16 with fail
      refine growK_begin 5 (fun w' => ∃ u : KeepW wd (fun _ => False), w' = u.v) (by kernel_rfl) ?_
      rw [← hwd]
      clear hwd
      refine growK_take (by kernel_rfl) [0, 1, 2] 3 _ _ (by kernel_rfl) _ (keep_class (Fr.refl _ _)) ?_
      simp only [opsAt, List.getElem?_toArray, List.getElem?_cons_succ, List.getElem?_cons_zero]
      repeat (first
        | (refine wpQuiet_load_v (by rfl) 25 _ rfl b 0 3 _ arr VA.out rfl _ (fun w hw j hj => by obtain ⟨u, rfl⟩ := hw; exact KS.out u j hj) Tryd.underlying25 rfl (by kernel_rfl) ?_)
        | go_big_quiet_step (fail) | quiet_step (fail))
      refine wpQuiet_nil ?_
      clear kcv KS
      refine growK_one 3 (by kernel_rfl) (fun K hK => ?_)
      simp only [stepOf, List.getElem?_toArray, List.getElem?_cons_succ, List.getElem?_cons_zero]
      go_simp
      go_at_call 13
      (with_reducible refine HIX.out.mono ?_)
      rintro e w9 ⟨v9, rfl, ha9⟩
      rw [← HTE.out] at ha9
      obtain ⟨p9, q9, hv9, hs9, hp9⟩ := ha9.own.sl HTB.out
      rw [← HTL.out] at hv9
      subst hv9
      have cv9 : (convert 36 9 (.slice p9 tl q9)).run Tryd.prog w9 = .ok (.string STR) w9 := by
        rw [HSTR.out, HTL.out]; exact conv_sl _ _ _ _ hs9
      have HB9 := Lib.hid ha9.below
      refine hK.out _ _ (keep_class (Fr.of_below HB9.out)) ?_
      clear hK K HIX ha9 hs9 hp9
      refine growK_one 4 (by kernel_rfl) (fun K hK => ?_)
      simp only [stepOf, List.getElem?_toArray, List.getElem?_cons_succ, List.getElem?_cons_zero]
      go_simp
      refine hK.out _ _ (keep_class (Fr.of_below HB9.out)) ?_
      clear hK K cv9
      refine growK_last (by kernel_rfl) (by kernel_rfl) (fun K hK => ?_)
      simp only [stepOf, List.getElem?_toArray, List.getElem?_cons_succ, List.getElem?_cons_zero]
      go_simp
      refine hK.out _ _ ?_
      clear hK K
      have HB19 : Hid (Below w1.heap.size w1 w9) := HB1d.out.trans (HB9.out.mono HB1d.out.size)
      have HB49 : Hid (Below w4.heap.size w4 w9) := HB4d.out.trans (HB9.out.mono HB4d.out.size)
      have HB89 : Hid (Below w8.heap.size w8 w9) := HB8d.out.trans (HB9.out.mono HB8d.out.size)
      clear HBd HB1d HB4d HB8d HB9 HSLT HTL HTB HSTR HTE HB1r HB4r
      go_upto_region 19 with fail
      obtain ⟨k, hkz, hkN⟩ : ∃ k : Nat, z % (F.length : Int) = (k : Int) ∧ k < F.length := by
        have h1 : 0 ≤ z % (F.length : Int) := Int.emod_nonneg _ (by omega)
        have h2 : z % (F.length : Int) < (F.length : Int) := Int.emod_lt_of_pos _ (by omega)
        exact ⟨(z % (F.length : Int)).toNat, by omega, by omega⟩
      rw [hkz]
      clear hkz
      obtain ⟨wd, hwd⟩ : ∃ wd, wd = w9.drew := ⟨_, rfl⟩
      have HB1d : Hid (Below w1.heap.size w1 wd) := by rw [hwd]; exact HB19.out.drew
      have HB4d : Hid (Below w4.heap.size w4 wd) := by rw [hwd]; exact HB49.out.drew
      have HB8d : Hid (Below w8.heap.size w8 wd) := by rw [hwd]; exact HB89.out.drew
      have HCF : Hid (∀ wr, Below wd.heap.size wd wr → ∀ i (h : i < F.length) j, j < 51 → wr.cell? ⟨g0, i * 51 + j, none⟩ = some (pwV F[i] j)) := fun wr hb i h j hj => by
        obtain ⟨_, _, e, _, hc⟩ := pks_one ((HSL4.out.below HB4d.out).below hb) h
        cases e
        have := hc j hj
        rwa [Nat.zero_add] at this
      obtain ⟨of1, c1, sl1, hof1⟩ := pk_from g0 F.length cv k (by omega) hac
      have sl2 := pk_upto g0 F.length cv k (by omega)
      have hof : of1 = k * 51 := hof1 hkN
      subst hof
      have hd1 : (F.drop k).length = F.length - k := by rw [List.length_drop]
      have hd2 : (F.take k).length = k := by rw [List.length_take]; omega
      have HD1 := Lib.hid hd1
      have HD2 := Lib.hid hd2
      obtain ⟨nk, hnk⟩ : ∃ nk, nk = F.length - k := ⟨_, rfl⟩
      rw [← hnk] at sl1
      have HNK := Lib.hid hnk
      have HRW0 := Lib.hid (Prw.empty wd wd (Below.refl _ _))
      have HBE : Hid (Below wd.heap.size wd (wd.alloc (.cells #[] 44))) := (Below.refl _ _).alloc (Nat.le_refl _) _
      clear hd1 hd2 hof1 HB19 HB49 HB89 hnk
      refine growK_begin 9 (fun w' => ∃ u : KeepW wd (fun _ => False), w' = u.v) (by kernel_rfl) ?_
      rw [← hwd]
      clear hwd
      refine growK_take (by kernel_rfl) [1, 2, 3, 5, 6, 7] 4 _ _ (by kernel_rfl) _ (keep_class (Fr.refl _ _)) ?_
      simp only [opsAt, List.getElem?_toArray, List.getElem?_cons_succ, List.getElem?_cons_zero]
      repeat (first | go_big_quiet_step (fail) | quiet_step (fail))
      refine wpQuiet_nil ?_
      clear sl1 sl2
      refine growK_one 0 (by kernel_rfl) (fun K hK => ?_)
      simp only [stepOf, List.getElem?_toArray, List.getElem?_cons_zero]
      go_simp
      refine hK.out _ _ (keep_class (Fr.of_below HBE.out)) ?_
      clear hK K
      generalize wd.alloc (.cells #[] 44) = w10 at *
      refine growK_one 4 (by kernel_rfl) (fun K hK => ?_)
      simp only [stepOf, List.getElem?_toArray, List.getElem?_cons_succ, List.getElem?_cons_zero]
      rw [if_pos (by rfl)]
      refine op_push_p _ (.tmp 110) (.tmp 113) rfl wd.heap.size _ [] rfl HRW0.out.own g0 (k * 51) nk c1 rfl (F.drop k) (by rw [HD1.out, HNK.out]) (fun i hi j hj => by
        have hi2 : k + i < F.length := by rw [HD1.out] at hi; omega
        have := HCF.out w10 HRW0.out.below (k + i) hi2 j hj
        rw [show (k + i) * 51 + j = k * 51 + i * 51 + j by omega] at this
        rw [this, List.getElem_drop]) HRW0.out.below.size (by simp) (by have := HNK.out; omega) ?_
      intro v11 w11 o11 g11 e11
      have HR11 := Lib.hid (HRW0.out.push o11.out g11.out)
      refine hK.out _ _ (keep_class (Fr.of_below HR11.out.below)) ?_
      clear hK K o11 g11 e11
      refine growK_one 8 (by kernel_rfl) (fun K hK => ?_)
      simp only [stepOf, List.getElem?_toArray, List.getElem?_cons_succ, List.getElem?_cons_zero]
      rw [if_pos (by rfl)]
      refine op_push_p _ (.tmp 114) (.tmp 117) rfl wd.heap.size v11 _ rfl HR11.out.own g0 0 k cv rfl (F.take k) HD2.out (fun i hi j hj => by
        have hi2 : i < F.length := by rw [HD2.out] at hi; omega
        rw [Nat.zero_add, HCF.out w11 HR11.out.below i hi2 j hj, List.getElem_take]) HR11.out.below.size (by have := HD1.out; simp only [List.nil_append, this]; omega) (by omega) ?_
      intro v12 w12 o12 g12 e12
      have HR12 : Hid (Prw wd w12 v12 (F.drop k ++ F.take k)) := HR11.out.push o12.out g12.out
      refine hK.out _ _ (keep_class (Fr.of_below HR12.out.below)) ?_
      clear hK K o12 g12 e12 HR11 HRW0 HBE
      refine growK_last (by kernel_rfl) (by kernel_rfl) (fun K hK => ?_)
      simp only [stepOf, List.getElem?_toArray, List.getElem?_cons_succ, List.getElem?_cons_zero]
      go_simp
      refine hK.out _ _ ?_
      clear hK K
      have HX00 : Hid (∀ x ∈ ([] : List Pw), x ∈ O ∧ x.p.set ≠ nameS S) := fun x hx => (by cases hx)
      have HFM : Hid (∀ f ∈ F, f.p ∈ dirS S) := fun f hf => by rw [← HF4.out]; exact List.mem_map.2 ⟨f, hf, rfl⟩
      have HPF : Hid (∀ f ∈ F, PkAt wd f.p f.sa f.sc f.da f.dc) := fun f hf => (HSL4.out.pks f hf).below HB4d.out
      have HCQ : Hid (∀ wr, Below wd.heap.size wd wr → wr.heap[g9]? = some (.cells QA 32 (0, 0))) := fun wr h => by
        have h1 := (HB8d.out.block g9 (Array.getElem?_eq_some_iff.1 HC9.out).1).trans HC9.out
        exact (h.block g9 (Array.getElem?_eq_some_iff.1 h1).1).trans h1
      go_wp2_with fail
      go_loopw [16, 121] (fun t i wr => ∃ (j : Nat) (X : List Pw), j ≤ O.length ∧ i = .int .i64 j ∧ X.length ≤ j ∧ Hid (Prw wd wr t (X ++ (F.drop k ++ F.take k))) ∧ Hid (∀ x ∈ X, x ∈ O ∧ x.p.set ≠ nameS S)) (fun _ i _ => O.length - (intOf i).toNat)
      case atStart => exact ⟨0, [], by omega, rfl, by simp, HR12, HX00⟩
      case round =>
        obtain ⟨j, X, hj, rfl, hXl, HR, HXO⟩ := hrel
        clear HX00 HR12
        have HB1r : Hid (Below w1.heap.size w1 wr) := HB1d.out.trans (HR.out.below.mono HB1d.out.size)
        have HCr := Lib.hid (HCQ.out wr HR.out.below)
        obtain ⟨ra, rc, hrv, hrl, hrc⟩ := HR.out.own.slice
        have hGp : 0 < (X ++ (F.drop k ++ F.take k)).length := by
          have h1 := HD1.out
          simp only [List.length_append]; omega
        rw [hrv] at HR
        obtain ⟨gm, hra, hgm, hgcx⟩ := HR.out.own.cells hGp
        clear hgcx
        subst hra
        obtain ⟨gl, hgl⟩ : ∃ gl, gl = (X ++ (F.drop k ++ F.take k)).length := ⟨_, rfl⟩
        rw [← hgl] at hrv
        subst hrv
        have HGL := Lib.hid hgl
        have hgl28 : gl ≤ 27 := by
          have h1 := HD1.out
          have h2 := HD2.out
          rw [hgl]; simp only [List.length_append, h1, h2]; omega
        clear hrl hrc hGp hgl
        by_cases hlt2 : j < O.length
        · obtain ⟨ob, oo, rfl, hob, hx⟩ := pks_one (HO.out.below HB1r.out) hlt2
          have hpk := (HO.out.pks _ (List.getElem_mem hlt2)).okk
          have hmem : O[j] ∈ O := List.getElem_mem hlt2
          obtain ⟨f, hf⟩ : ∃ f, f = O[j] := ⟨_, rfl⟩
          rw [← hf] at hx hpk hmem
          have HXF := Lib.hid hx
          have HMEM := Lib.hid hmem
          obtain ⟨SA, hSA⟩ : ∃ SA, SA = rowArr 8 (vOf f.p.set) := ⟨_, rfl⟩
          have VS : Hid (rowArr 8 (vOf f.p.set) = SA) := hSA.symm
          have hg9l : g9 < wr.heap.size := (Array.getElem?_eq_some_iff.1 HCr.out).1
          have HC8 : Hid (∀ i, i < 8 → wr.cell? ⟨g9, 0 + i, none⟩ = some (vOf (nameS S) i)) := fun i hi => by
            rw [cell_of_block HCr.out, Nat.zero_add, ← VQ.out]
            simp [rowArr, hi]
          have HO8 : Hid (∀ i, i < 8 → wr.cell? ⟨ob, oo + j * 51 + i, none⟩ = some (vOf f.p.set i)) := fun i hi => by
            rw [hx i (by omega)]
            unfold pwV
            rw [pkV_set _ _ _ _ _ hi]
          have nn : ∀ w, (binOp .neq 32 (.agg SA) (.agg QA)).run Tryd.prog w = .ok (.bool (!decide (f.p.set = nameS S))) w := fun w => by
            rw [run_neq_struct, hSA, ← VQ.out, eq_arr Tryd.underlying32 hpk.setb NB.out hpk.set8 N8.out 9998 w]
            rfl
          clear hx hpk hmem hf hSA
          obtain ⟨q, hq⟩ : ∃ q, q = decide (f.p.set = nameS S) := ⟨_, rfl⟩
          rw [← hq] at nn
          have HQD := Lib.hid hq
          clear hq
          cases q
          case' true =>
            go_upto_region 23 with fail
          case' false =>
            go_upto_region 23 with fail
          all_goals
            refine wp_region_quiet_below mixed (by kernel_rfl) ?_
            repeat (first
              | (refine wpQuiet_load_v (by rfl) 32 _ rfl ob (oo + j * 51) 8 _ SA VS.out rfl _ (fun w hw i hi => by obtain ⟨⟨d, os⟩, rfl⟩ := hw; exact ((below_regrown wr d os).cell (p := ⟨ob, oo + j * 51 + i, none⟩) hob).trans (HO8.out i hi)) Tryd.underlying32 rfl (by kernel_rfl) ?_)
              | (refine wpQuiet_load_v (by rfl) 32 _ rfl g9 0 8 _ QA VQ.out rfl _ (fun w hw i hi => by obtain ⟨⟨d, os⟩, rfl⟩ := hw; exact ((below_regrown wr d os).cell (p := ⟨g9, 0 + i, none⟩) hg9l).trans (HC8.out i hi)) Tryd.underlying32 rfl (by kernel_rfl) ?_)
              | go_big_quiet_step (fail) | quiet_step (fail))
            refine wpQuiet_nil ?_
            intro _ hw'
            obtain ⟨⟨dq, osq⟩, hw''⟩ := hw'
            subst hw''
            have HR3 := Lib.hid (HR.out.later (below_regrown wr dq osq))
            have HXF3 : Hid (∀ i, i < 51 → (Go.Sort.grow (redrawn wr dq) osq).cell? ⟨ob, oo + j * 51 + i, none⟩ = some (pwV f i)) := fun i hi => ((below_regrown wr dq osq).cell (p := ⟨ob, oo + j * 51 + i, none⟩) hob).trans (HXF.out i hi)
            clear nn HC8 HO8
            generalize Go.Sort.grow (redrawn wr dq) osq = w5 at *
          case false =>
            obtain ⟨AQ, hAQ⟩ : ∃ AQ, AQ = rowArr 51 (pwV f) := ⟨_, rfl⟩
            have VAQ : Hid (rowArr 51 (pwV f) = AQ) := hAQ.symm
            have HBS : Hid (Tryd.prog.builtSlice 44 1 [(0, .agg AQ)] = some AQ) := by show _ = _; rw [hAQ]; exact builtS_one _
            have HBA : Hid (Below w5.heap.size w5 (w5.alloc (.cells AQ 44))) := (Below.refl _ _).alloc (Nat.le_refl _) _
            have HRA := Lib.hid (HR3.out.later HBA.out)
            have HRF : Hid (Prw wd (w5.alloc (.cells AQ 44)) (.slice (some ⟨w5.heap.size, 0, none⟩) 1 1) [f]) := by
              have hg : (w5.alloc (.cells AQ 44)).heap[w5.heap.size]? = some (.cells (rowArr 51 (pwV f)) 44 (0, 0)) := by rw [VAQ.out]; exact heap_alloc_last w5 _
              refine ⟨⟨by rw [encP_len], .inr ⟨w5.heap.size, 1, _, rfl, HR3.out.below.size, hg, Nat.le_refl _, by unfold maxLen; omega, by rw [rowArr_size], ?_⟩⟩, HRA.out.below⟩
              simp only [encP, List.flatMap_cons, List.flatMap_nil, List.append_nil, rowArr, List.length_singleton, oneP]
              exact List.take_of_length_le (by simp)
            have HCG : Hid (∀ i (h : i < (X ++ (F.drop k ++ F.take k)).length) m, m < 51 → (w5.alloc (.cells AQ 44)).cell? ⟨gm, 0 + i * 51 + m, none⟩ = some (pwV (X ++ (F.drop k ++ F.take k))[i] m)) := fun i hi m hm => by
              obtain ⟨g', e', _, hc⟩ := HRA.out.own.cells hi
              cases e'
              rw [Nat.zero_add]
              exact hc m hm
            have hszA : wd.heap.size ≤ (w5.alloc (.cells AQ 44)).heap.size := HRA.out.below.size
            clear hAQ
            go_upto_region 25 with (first
              | (refine wpList_load_v (by rfl) 44 _ rfl ob (oo + j * 51) 51 _ AQ VAQ.out rfl _ HXF3.out Tryd.underlying44 rfl (by kernel_rfl) ?_)
              | (refine Go.Great.wpList_buildSliceTo rfl 26 44 1 _ rfl w5.heap.size rfl (some 135) rfl Tryd.underlying26 AQ ?_ ?_; (first | exact HBS.out | (go_simp; exact HBS.out)))
              | (at_builtin; refine wpList_push_p _ rfl (.tmp 135) (.tmp 136) rfl wd.heap.size (.slice (some ⟨w5.heap.size, 0, none⟩) 1 1) [f] rfl HRF.out.own gm 0 gl rc rfl (X ++ (F.drop k ++ F.take k)) HGL.out.symm HCG.out hszA (by simp) (by omega) ?_; intro v6 w6 o6 g6 e6))
            have HR6 : Hid (Prw wd w6 v6 ((f :: X) ++ (F.drop k ++ F.take k))) := HRF.out.push o6.out g6.out
            have HX6 : Hid (∀ x ∈ f :: X, x ∈ O ∧ x.p.set ≠ nameS S) := fun x hx => by
              rcases List.mem_cons.1 hx with rfl | hx
              · exact ⟨HMEM.out, fun e => by have := HQD.out; rw [decide_eq_true e] at this; cases this⟩
              · exact HXO.out x hx
            clear o6 g6 e6 HRF HCG
            go_wp2_with fail
            go_roundw
            case rel => exact ⟨j + 1, f :: X, by omega, by go_num, by simp; omega, HR6, HX6⟩
            case measure => simp [intOf]; omega
          case true =>
            go_wp2_with fail
            go_roundw
            case rel => exact ⟨j + 1, X, by omega, by go_num, by omega, (by show Prw _ _ _ _; rw [HGL.out]; exact HR3.out), HXO⟩
            case measure => simp [intOf]; omega
        · obtain rfl : j = O.length := by omega
          clear hlt2 hj hXl
          have HPG : Hid (∀ f ∈ X ++ (F.drop k ++ F.take k), PkAt wd f.p f.sa f.sc f.da f.dc) := fun f hf => by
            rcases List.mem_append.1 hf with h | h
            · exact (HO.out.pks f (HXO.out f h).1).below HB1d.out
            · rcases List.mem_append.1 h with h | h
              · exact HPF.out f (List.mem_of_mem_drop h)
              · exact HPF.out f (List.mem_of_mem_take h)
          have HSLG := Lib.hid (HR.out.sl HPG.out)
          have HDG : Hid (∀ f ∈ X ++ (F.drop k ++ F.take k), f.p.set = nameS S → f.p ∈ dirS S) := fun f hf e => by
            rcases List.mem_append.1 hf with h | h
            · exact absurd e (HXO.out f h).2
            · rcases List.mem_append.1 h with h | h
              · exact HFM.out f (List.mem_of_mem_drop h)
              · exact HFM.out f (List.mem_of_mem_take h)
          have HAG : Hid (∀ p ∈ dirS S, ∃ f ∈ X ++ (F.drop k ++ F.take k), f.p = p) := fun p hp => by
            rw [← HF4.out] at hp
            obtain ⟨f, hf, rfl⟩ := List.mem_map.1 hp
            rw [← List.take_append_drop k F] at hf
            refine ⟨f, ?_, rfl⟩
            rcases List.mem_append.1 hf with h | h
            · exact List.mem_append_right _ (List.mem_append_right _ h)
            · exact List.mem_append_right _ (List.mem_append_left _ h)
          have HSM : Hid (∀ p ∈ dirS S, p.sums.length ≤ 100) := fun p hp => by
            rcases dirS_one hp with ⟨_, rfl⟩ | ⟨i, _, ⟨_, rfl⟩ | ⟨_, rfl⟩⟩
            · exact Nat.zero_le _
            · exact Nat.zero_le _
            · show (partS S i).length ≤ 100
              unfold partS
              have := HFO.out.m1
              simp only [List.length_take, List.length_drop]; omega
          have hjn := join14_any (some ⟨gm, 0, none⟩) rc (X ++ (F.drop k ++ F.take k)) (nameS S) wr HSLG.out N8.out NB.out (by rw [← HGL.out]; omega) (fun f hf e => HSM.out _ (HDG.out f hf e)) (HM.out.below HB1r.out) (HT.out.below HB1r.out)
          rw [VQ.out] at hjn
          have HJN : Hid (Calls Tryd.prog 14 #[.slice (some ⟨gm, 0, none⟩) gl rc, .agg QA] wr fun e w' => Below wr.heap.size wr w' ∧ ∃ fa fc sa sc, e = .returned (.tuple #[.agg (rowArr 3 (setV S fa fc sa sc)), .int .i64 0]) ∧ SetAt w' S fa fc sa sc) := by
            show Calls _ _ _ _ _
            rw [HGL.out]
            exact hjn.mono fun e w' h => join_own HFO.out HDG.out HAG.out h
          clear hjn HSLG HPG HAG HDG
          have HC8 : Hid (∀ i, i < 8 → wr.cell? ⟨g9, 0 + i, none⟩ = some (vOf (nameS S) i)) := fun i hi => by
            rw [cell_of_block HCr.out, Nat.zero_add, ← VQ.out]
            simp [rowArr, hi]
          go_upto_region 27 with (first
            | (refine wpList_load_v (by rfl) 32 _ rfl g9 0 8 _ QA VQ.out rfl _ HC8.out Tryd.underlying32 rfl (by kernel_rfl) ?_)
            | (go_at_call 14; (with_reducible refine HJN.out.mono ?_); rintro e wj ⟨bj, ga, gc, ta, tc, rfl, htj⟩; have HBj := Lib.hid bj; have HTj := Lib.hid htj; obtain ⟨XA, hXA⟩ : ∃ XA, XA = rowArr 3 (setV S ga gc ta tc) := ⟨_, rfl⟩; have VX : Hid (rowArr 3 (setV S ga gc ta tc) = XA) := hXA.symm; have HXs : Hid (XA.size = 3) := (by show _ = _; rw [hXA, rowArr_size]); have HX1 : Hid (XA.all (·.oneCell') = true) := (by show _ = _; rw [hXA]; exact setArr_one _ _ _ _ _); rw [← hXA]; clear hXA bj htj HJN; have HALL : Hid (∀ c : Array Value, (wj.alloc (.cells c 25)).heap[wj.heap.size]? = some (.cells c 25 (0, 0))) := (fun c => heap_alloc_last wj _); have HALB : Hid (∀ c : Array Value, Below wj.heap.size wj (wj.alloc (.cells c 25))) := (fun c => (Below.refl _ _).alloc (Nat.le_refl _) _))
            | (refine wpList_store_arr rfl 25 _ _ rfl wj.heap.size XA rfl rfl 25 _ (HALL.out _) (by rw [HXs.out]; kernel_rfl) (by rw [HXs.out]; rfl) HX1.out ?_; intro wk HCk hfk; have HBjk : Hid (Below wj.heap.size wj wk) := (HALB.out _).trans (hfk.out.below (HALB.out _).size (fun k hk e => by omega)); clear hfk HALL HALB))
          obtain ⟨gs, hgs⟩ : ∃ gs, gs = wj.heap.size := ⟨_, rfl⟩
          rw [← hgs] at HCk
          rw [← hgs]
          have HTk := Lib.hid (HTj.out.below HBjk.out)
          have HBk : Hid (Below wr.heap.size wr wk) := HBj.out.trans (HBjk.out.mono HBj.out.size)
          clear hgs HBj HBjk HTj HC8
          obtain ⟨we, hwe⟩ : ∃ we, we = wk.drew := ⟨_, rfl⟩
          have HBke : Hid (Below wk.heap.size wk we) := by rw [hwe]; exact (Below.refl _ _).drew
          have HBe : Hid (Below wr.heap.size wr we) := HBk.out.trans (HBke.out.mono HBk.out.size)
          have HBde : Hid (Below wd.heap.size wd we) := HR.out.below.trans (HBe.out.mono HR.out.below.size)
          have HTe := Lib.hid (HTk.out.below HBke.out)
          have HCe : Hid (we.heap[gs]? = some (.cells XA 25 (0, 0))) := (HBke.out.block gs (Array.getElem?_eq_some_iff.1 HCk.out).1).trans HCk.out
          obtain ⟨of1, c1, sl1, hof1⟩ := pk_from g0 F.length cv (k + 1) (by omega) hac
          have sl2 := pk_upto g0 F.length cv k (by omega)
          rw [show (((k + 1 : Nat)) : Int) = (k : Int) + 1 by omega] at sl1
          have hd1 : (F.drop (k + 1)).length = F.length - (k + 1) := by rw [List.length_drop]
          have HE1 := Lib.hid hd1
          obtain ⟨nk2, hnk2⟩ : ∃ nk2, nk2 = F.length - (k + 1) := ⟨_, rfl⟩
          rw [← hnk2] at sl1
          have HNK2 := Lib.hid hnk2
          have HOF := Lib.hid hof1
          have HRW0 := Lib.hid (Prw.empty we we (Below.refl _ _))
          have HBE : Hid (Below we.heap.size we (we.alloc (.cells #[] 44))) := (Below.refl _ _).alloc (Nat.le_refl _) _
          clear hd1 hof1 hnk2 HTk HCk HBk HBke HBe HR HGL hgl28 hgm
          refine growK_begin 10 (fun w' => ∃ u : KeepW we (fun _ => False), w' = u.v) (by kernel_rfl) ?_
          rw [← hwe]
          clear hwe
          refine growK_take (by kernel_rfl) [1, 2, 3, 5, 6, 7, 8] 4 _ _ (by kernel_rfl) _ (keep_class (Fr.refl _ _)) ?_
          simp only [opsAt, List.getElem?_toArray, List.getElem?_cons_succ, List.getElem?_cons_zero]
          repeat (first | go_big_quiet_step (fail) | quiet_step (fail))
          refine wpQuiet_nil ?_
          clear sl1 sl2
          refine growK_one 0 (by kernel_rfl) (fun K hK => ?_)
          simp only [stepOf, List.getElem?_toArray, List.getElem?_cons_zero]
          go_simp
          refine hK.out _ _ (keep_class (Fr.of_below HBE.out)) ?_
          clear hK K
          generalize we.alloc (.cells #[] 44) = w10 at *
          refine growK_one 4 (by kernel_rfl) (fun K hK => ?_)
          simp only [stepOf, List.getElem?_toArray, List.getElem?_cons_succ, List.getElem?_cons_zero]
          rw [if_pos (by rfl)]
          refine op_push_p _ (.tmp 145) (.tmp 148) rfl we.heap.size _ [] rfl HRW0.out.own g0 0 k cv rfl (F.take k) HD2.out (fun i hi j hj => by
            have hi2 : i < F.length := by rw [HD2.out] at hi; omega
            rw [Nat.zero_add, HCF.out w10 (HBde.out.trans (HRW0.out.below.mono HBde.out.size)) i hi2 j hj, List.getElem_take]) HRW0.out.below.size (by simp) (by omega) ?_
          intro v11 w11 o11 g11 e11
          have HR11 := Lib.hid (HRW0.out.push o11.out g11.out)
          refine hK.out _ _ (keep_class (Fr.of_below HR11.out.below)) ?_
          clear hK K o11 g11 e11
          refine growK_one 9 (by kernel_rfl) (fun K hK => ?_)
          simp only [stepOf, List.getElem?_toArray, List.getElem?_cons_succ, List.getElem?_cons_zero]
          rw [if_pos (by rfl)]
          refine op_push_p _ (.tmp 149) (.tmp 153) rfl we.heap.size v11 _ rfl HR11.out.own g0 of1 nk2 c1 rfl (F.drop (k + 1)) (by rw [HE1.out, HNK2.out]) (fun i hi j hj => by
            have hi2 : k + 1 + i < F.length := by rw [HE1.out] at hi; omega
            have := HCF.out w11 (HBde.out.trans (HR11.out.below.mono HBde.out.size)) (k + 1 + i) hi2 j hj
            rw [HOF.out (by omega), show (k + 1) * 51 + i * 51 + j = (k + 1 + i) * 51 + j by omega]
            rw [this, List.getElem_drop]) HR11.out.below.size (by have := HD2.out; simp only [List.nil_append, this]; omega) (by have := HNK2.out; omega) ?_
          intro v12 w12 o12 g12 e12
          have HR12 : Hid (Prw we w12 v12 (F.take k ++ F.drop (k + 1))) := HR11.out.push o12.out g12.out
          refine hK.out _ _ (keep_class (Fr.of_below HR12.out.below)) ?_
          clear hK K o12 g12 e12 HR11 HRW0 HBE
          refine growK_last (by kernel_rfl) (by kernel_rfl) (fun K hK => ?_)
          simp only [stepOf, List.getElem?_toArray, List.getElem?_cons_succ, List.getElem?_cons_zero]
          go_simp
          refine hK.out _ _ ?_
          clear hK K
          have HBd2 : Hid (Below wd.heap.size wd w12) := HBde.out.trans (HR12.out.below.mono HBde.out.size)
          have HB12 : Hid (Below w1.heap.size w1 w12) := HB1d.out.trans (HBd2.out.mono HB1d.out.size)
          have HT12 := Lib.hid (HTe.out.below HR12.out.below)
          have HC12 : Hid (w12.heap[gs]? = some (.cells XA 25 (0, 0))) := (HR12.out.below.block gs (Array.getElem?_eq_some_iff.1 HCe.out).1).trans HCe.out
          have HPE : Hid (∀ f ∈ F.take k ++ F.drop (k + 1), PkAt we f.p f.sa f.sc f.da f.dc) := fun f hf => by
            rcases List.mem_append.1 hf with h | h
            · exact (HPF.out f (List.mem_of_mem_take h)).below HBde.out
            · exact (HPF.out f (List.mem_of_mem_drop h)).below HBde.out
          obtain ⟨ra2, rc2, hrv2, hrl2, hrc2⟩ := HR12.out.own.slice
          rw [hrv2] at HR12
          have HSLE := Lib.hid (HR12.out.sl HPE.out)
          have HLE : Hid ((F.take k ++ F.drop (k + 1)).length = F.length - 1) := by
            show _ = _
            rw [List.length_append, HD2.out, HE1.out]; omega
          have HDG : Hid (∀ f ∈ F.take k ++ F.drop (k + 1), f.p.set = nameS S → f.p ∈ dirS S) := fun f hf e => by
            rcases List.mem_append.1 hf with h | h
            · exact HFM.out f (List.mem_of_mem_take h)
            · exact HFM.out f (List.mem_of_mem_drop h)
          have hjn := join14_any ra2 rc2 (F.take k ++ F.drop (k + 1)) (nameS S) w12 HSLE.out N8.out NB.out (by rw [HLE.out]; omega) (fun f hf e => HSM.out _ (HDG.out f hf e)) (HM.out.below HB12.out) (HT.out.below HB12.out)
          rw [VQ.out] at hjn
          obtain ⟨gl2, hgl2⟩ : ∃ gl2, gl2 = (F.take k ++ F.drop (k + 1)).length := ⟨_, rfl⟩
          obtain ⟨ZA, hZA⟩ : ∃ ZA, ZA = zSetA := ⟨_, rfl⟩
          have HZs : Hid (ZA.size = 3) := by show _ = _; rw [hZA]; rfl
          have HZ1 : Hid (ZA.all (·.oneCell') = true) := by show _ = _; rw [hZA]; kernel_rfl
          have HJN : Hid (Calls Tryd.prog 14 #[.slice ra2 gl2 rc2, .agg QA] w12 fun e w' => Below w12.heap.size w12 w' ∧ e = .returned (.tuple #[.agg ZA, .int .i64 7])) := by
            show Calls _ _ _ _ _
            rw [hgl2, hZA]
            exact hjn.mono fun e w' h => join_lacks (x := F[k].p) (HFM.out _ (List.getElem_mem hkN)) HDG.out (fun f hf _ => lacks_part HF4.out hkN f hf) h
          rw [← hgl2] at hrv2
          subst hrv2
          have HC8 : Hid (∀ i, i < 8 → w12.cell? ⟨g9, 0 + i, none⟩ = some (vOf (nameS S) i)) := fun i hi => by
            rw [cell_of_block (HCQ.out w12 HBd2.out), Nat.zero_add, ← VQ.out]
            simp [rowArr, hi]
          clear hjn hgl2 hZA hrl2 hrc2 HSLE HPE HDG HR12
          go_upto_region 29 with (first
            | (refine wpList_load_v (by rfl) 32 _ rfl g9 0 8 _ QA VQ.out rfl _ HC8.out Tryd.underlying32 rfl (by kernel_rfl) ?_)
            | (go_at_call 14; (with_reducible refine HJN.out.mono ?_); rintro e wj ⟨bj, rfl⟩; have HBj := Lib.hid bj; clear bj HJN; have HALL : Hid (∀ c : Array Value, (wj.alloc (.cells c 25)).heap[wj.heap.size]? = some (.cells c 25 (0, 0))) := (fun c => heap_alloc_last wj _); have HALB : Hid (∀ c : Array Value, Below wj.heap.size wj (wj.alloc (.cells c 25))) := (fun c => (Below.refl _ _).alloc (Nat.le_refl _) _))
            | (refine wpList_store_arr rfl 25 _ _ rfl wj.heap.size ZA rfl rfl 25 _ (HALL.out _) (by rw [HZs.out]; kernel_rfl) (by rw [HZs.out]; rfl) HZ1.out ?_; intro wk HCk hfk; have HBjk : Hid (Below wj.heap.size wj wk) := (HALB.out _).trans (hfk.out.below (HALB.out _).size (fun k hk e => by omega)); clear hfk HALL HALB))
          have HBk : Hid (Below w12.heap.size w12 wk) := HBj.out.trans (HBjk.out.mono HBj.out.size)
          have HB1k : Hid (Below w1.heap.size w1 wk) := HB12.out.trans (HBk.out.mono HB12.out.size)
          have HCK : Hid (∀ i, i < 3 → wk.cell? ⟨gs, 0 + i, none⟩ = some (setV S ga gc ta tc i)) := fun i hi => by
            rw [cell_of_block ((HBk.out.block gs (Array.getElem?_eq_some_iff.1 HC12.out).1).trans HC12.out), Nat.zero_add, ← VX.out]
            simp [rowArr, hi]
          have hsm := sameSet_any S ga gc ta tc fa fc sa sc wk (HT12.out.below HBk.out) (HS.out.below HB1k.out)
          rw [VX.out, VA.out] at hsm
          have HSA := Lib.hid hsm
          clear hsm
          go_wp2_with (first
            | (refine wpList_load_v (by rfl) 25 _ rfl gs 0 3 _ XA VX.out rfl _ HCK.out Tryd.underlying25 rfl (by kernel_rfl) ?_)
            | (refine wpList_load_v (by rfl) 25 _ rfl b 0 3 _ arr VA.out rfl _ (HCS.out _ HB1k.out) Tryd.underlying25 rfl (by kernel_rfl) ?_)
            | (go_at_call 15; (with_reducible refine HSA.out.mono ?_); rintro e wz ⟨rfl, bz⟩; have HBz := Lib.hid bz; clear bz HSA))
          exact HT1.out _ (HB0.out.trans ((HB1k.out.trans (HBz.out.mono HB1k.out.size)).mono HB0.out.size))
end Go.Proofs.YtechekkojinkmaaDoor
end
