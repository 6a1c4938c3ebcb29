/-
  Law 14's PacketFinds, walked.
-/
import Derived.Test.YthpfjgbhacdpgaaDoorMg24
import Derived.Test.YthpfjgbhacdpgaaDoorPlUM
namespace Go.Proofs.YthpfjgbhacdpgaaDoor
open Go.ChangeShapes Go.WideShapes Go.ChangeAt Go.RowKit Go.Joins
set_option linter.unusedVariables false

theorem drop_pair {F : List Fnd} {k i : Nat} {q : Pk} {r : List (Nat × Pk)} (h : (F.drop k).map Fnd.pair = (i, q) :: r) :
    ∃ (hk : k < F.length) (xa : Option Addr) (xc : Nat) (ya : Option Addr) (yc : Nat), F[k] = ⟨i, q, xa, xc, ya, yc⟩ ∧ (F.drop (k + 1)).map Fnd.pair = r := by
  by_cases hk : k < F.length
  · rw [List.drop_eq_getElem_cons hk, List.map_cons] at h
    injection h with h1 h2
    obtain ⟨x, hx⟩ : ∃ x, x = F[k] := ⟨_, rfl⟩
    rw [← hx] at h1
    obtain ⟨pos, p, xa, xc, ya, yc⟩ := x
    unfold Fnd.pair at h1
    simp only [Prod.mk.injEq] at h1
    obtain ⟨rfl, rfl⟩ := h1
    exact ⟨hk, xa, xc, ya, yc, hx.symm, h2⟩
  · rw [List.drop_eq_nil_of_le (by omega)] at h
    cases h

set_option maxRecDepth 1000000 in
set_option maxHeartbeats 4000000 in
theorem packetFinds_walk (a : Option Addr) (c : Nat) (l : List Nat) (w : World) (hs : Sl w a c l) (ht : Tabs w) :
    Calls Tryd.prog 5 #[.slice a l.length c] w (TrueAnd w) := by
  have mixed : Tryd.prog.follows .mixedOrders = true := by kernel_rfl
  have hlm := hs.lt
  have hcm : c ≤ 9223372036854775807 := by have := hs.most; unfold maxLen at this; omega
  have HAW : Hid (∀ w' : World, Below w.heap.size w w' → Calls Tryd.prog 8 #[] w' fun e w'' => e = .returned (.bool true) ∧ Below w'.heap.size w' w'') := fun w' k => awake14_any w' (ht.below k)
  have HS := Lib.hid hs
  have HT := Lib.hid ht
  clear hs ht
  have HA0 := Lib.hid (HAW.out w (Below.refl _ _))
  by_cases g : l.length ≤ 3000
  · have d1 : decide ((3000 : Int) < (l.length : Int)) = false := decide_eq_false (by omega)
    go_enter Tryd.func5, Tryd.ntmps5
    go_upto_region 3 with (go_at_call 8; (with_reducible refine HA0.out.mono ?_); rintro e w1 ⟨rfl, b1⟩; have HB1 := Lib.hid b1; clear b1 HA0)
    have HFI := Lib.hid (find_any a c l w1 (HS.out.below HB1.out) (by omega) (HT.out.below HB1.out))
    clear d1 HAW
    go_wp2_with fail
    (with_reducible refine HFI.out.mono ?_)
    rintro e w2 ⟨v, F, rfl, hst, hfd, hfl⟩
    obtain ⟨fa, fc, rfl, hfc, hfm⟩ := hst.own.slice
    have hfm2 : fc ≤ 9223372036854775807 := by unfold maxLen at hfm; omega
    have hfl2 : F.length ≤ 9223372036854775807 := by omega
    have HB2 : Hid (Below w.heap.size w w2) := HB1.out.trans (hst.below.mono HB1.out.size)
    have HST := Lib.hid hst
    have HFD := Lib.hid hfd
    clear HFI hst hfd hfm
    go_wp2_with fail
    go_loopw [4, 5] (fun kv pv wq => ∃ (k i : Nat), k ≤ F.length ∧ i ≤ l.length ∧ kv = .int .i64 (k : Int) ∧ pv = .int .i64 (i : Int) ∧ Hid (Below w2.heap.size w2 wq) ∧ Hid (Finds l i ((F.drop k).map Fnd.pair))) (fun _ p _ => l.length - (intOf p).toNat)
    case atStart => exact ⟨0, 0, by omega, by omega, rfl, rfl, Below.refl _ _, HFD.out⟩
    case round =>
      obtain ⟨k, i, hk, hi, rfl, rfl, HW, HK⟩ := hrel
      have HBw : Hid (Below w.heap.size w wr) := HB2.out.trans (HW.out.mono HB2.out.size)
      by_cases hlt : i < l.length
      · have hiz : (i : Int) < (l.length : Int) := by omega
        have hiz2 : (i : Int) ≤ (l.length : Int) := by omega
        have HSr := Lib.hid (HS.out.below HBw.out)
        obtain ⟨a2, hr2, hs2, -⟩ := cut_back HSr.out i hi
        have HBY : Hid (IsByte (l.drop i)) := hs2.byte
        have HD := Lib.hid (decode_any a2 (c - i) (l.drop i) _ hs2 (by rw [List.length_drop]; omega) (HT.out.below HBw.out))
        rw [List.length_drop] at HD
        clear hs2 HSr
        cases hd : decN (l.drop i) with
        | ok q n =>
          have hbg := dec_ok HBY.out hd
          obtain ⟨n1, n2, n3⟩ := begins_le hbg
          rw [List.length_drop] at n1
          obtain ⟨r, hr, hrest⟩ := finds_here HK.out hlt hd
          obtain ⟨hkF, xa, xc, ya, yc, hx, hr2'⟩ := drop_pair hr
          have HK4 : Hid (Finds l (i + n) ((F.drop (k + 1)).map Fnd.pair)) := by
            show Finds _ _ _
            rw [hr2']
            exact hrest
          have hPX : PkAt w2 q xa xc ya yc := by
            have h := (HST.out.pks F[k] (List.getElem_mem hkF)).1
            rw [hx] at h
            exact h
          obtain ⟨g0, hg0, hg1, hg2⟩ := OwnF.cells HST.out.own hkF
          rw [hx] at hg2
          subst hg0
          have HGL := Lib.hid hg1
          have HGC := Lib.hid hg2
          have HPX := Lib.hid hPX
          have hkz : (k : Int) < (F.length : Int) := by omega
          have dk : decide ((F.length : Int) ≤ (k : Int)) = false := decide_eq_false (by omega)
          have dk2 : decide (F.length ≤ k) = false := decide_eq_false (by omega)
          have dii : ((i : Int) == (i : Int)) = true := beq_self_eq_true _
          have HD2 : Hid (Calls Tryd.prog 12 #[.slice a2 (l.length - i) (c - i)] wr fun e w' => (∃ sa sc da dc, e = .returned (.tuple #[.agg (rowArr 51 (pkV q sa sc da dc)), .int .i64 (n : Int), .int .i64 0]) ∧ PkAt w' q sa sc da dc) ∧ Below wr.heap.size wr w') := HD.out.mono fun e w' h => by
            unfold DecPost at h
            rw [hd] at h
            exact h
          clear HD hd hbg n3 hr hrest hx hr2' hPX hg1 hg2
          go_wp2_with fail
          (with_reducible refine HD2.out.mono ?_)
          rintro e w3 ⟨⟨sa, sc, da, dc, rfl, hpk⟩, b3⟩
          have HB3 := Lib.hid b3
          have HPK3 := Lib.hid hpk
          obtain ⟨AQ, hAQ⟩ : ∃ AQ, AQ = rowArr 51 (pkV q sa sc da dc) := ⟨_, rfl⟩
          rw [← hAQ]
          have HAQ := Lib.hid hAQ
          have HQ1 : Hid (AQ.all (·.oneCell') = true) := by show _ = _; rw [hAQ]; exact oneCell_pk _ _ _ _ _
          have HQS : Hid (AQ.size = 51) := by show _ = _; rw [hAQ, rowArr_size]
          have HALL : Hid (∀ c : Array Value, (w3.alloc (.cells c 30)).heap[w3.heap.size]? = some (.cells c 30 (0, 0))) := fun c => heap_alloc_last w3 _
          have HALB : Hid (∀ c : Array Value, Below w3.heap.size w3 (w3.alloc (.cells c 30))) := fun c => (Below.refl _ _).alloc (Nat.le_refl _) _
          clear HD2 b3 hpk hAQ
          go_upto_region 10 with (refine wpList_store_arr rfl 30 _ _ rfl w3.heap.size AQ rfl rfl 30 _ (HALL.out _) (by rw [HQS.out]; kernel_rfl) (by rw [HQS.out]; rfl) HQ1.out ?_; intro w4 HC4 hf4; have HB34 : Hid (Below w3.heap.size w3 w4) := (HALB.out _).trans (hf4.out.below (HALB.out _).size (fun k hk e => by omega)); clear hf4 HALL HALB)
          obtain ⟨pb, hpb⟩ : ∃ pb, pb = w3.heap.size := ⟨_, rfl⟩
          rw [← hpb] at HC4 ⊢
          have HW4 : Hid (Below w2.heap.size w2 w4) := HW.out.trans ((HB3.out.trans (HB34.out.mono HB3.out.size)).mono HW.out.size)
          have HPK4 := Lib.hid (HPK3.out.below HB34.out)
          have HR4 : Hid (Row w4 pb 30 51 51 (pkV q sa sc da dc)) := Row.of_whole (by have := HC4.out; rw [HAQ.out] at this; exact this)
          clear HB34 HB3 HPK3 hpb HC4 HW
          obtain ⟨wd, hwd⟩ : ∃ wd, wd = w4.drew := ⟨_, rfl⟩
          have HBd : Hid (Below w4.heap.size w4 wd) := by rw [hwd]; exact (Below.refl _ _).drew
          have HWd : Hid (Below w2.heap.size w2 wd) := HW4.out.trans (HBd.out.mono HW4.out.size)
          have HRx : Hid (Row wd pb 30 51 51 (pkV q sa sc da dc)) := HR4.out.fr (X := fun _ => False) (Fr.of_below HBd.out) (fun h => h)
          have HGd : Hid (∀ j, j < 52 → wd.cell? ⟨g0, k * 52 + j, none⟩ = some (fndV ⟨i, q, xa, xc, ya, yc⟩ j)) := fun j hj => (World.cell?_of_block (a := ⟨g0, _, none⟩) (HWd.out.block g0 HGL.out)).trans (HGC.out j hj)
          have HGLd : Hid (g0 < wd.heap.size) := Nat.lt_of_lt_of_le HGL.out HWd.out.size
          have kat : ∀ u : KeepW wd fun _ => False, u.v.cell? ⟨g0, k * 52, none⟩ = some (.int .i64 (i : Int)) := fun u => (u.cell HGLd.out (fun h => h)).trans (HGd.out 0 (by omega))
          have KF : Hid (∀ w, (∃ u : KeepW wd (fun _ => False), w = u.v) → ∀ j, j < 51 → w.cell? ⟨g0, k * 52 + 1 + j, none⟩ = some (pkV q xa xc ya yc j)) := fun w hw j hj => by
            obtain ⟨u, rfl⟩ := hw
            rw [u.cell HGLd.out (fun h => h), show k * 52 + 1 + j = k * 52 + (j + 1) by omega, HGd.out (j + 1) (by omega)]
            rfl
          have KX : Hid (∀ w, (∃ u : KeepW wd (fun _ => False), w = u.v) → ∀ j, j < 51 → w.cell? ⟨pb, 0 + j, none⟩ = some (pkV q sa sc da dc j)) := fun w hw j hj => by
            obtain ⟨u, rfl⟩ := hw
            rw [u.cell HRx.out.lt (fun h => h), Nat.zero_add]
            exact HRx.out.cell j hj
          obtain ⟨AX, hAX⟩ : ∃ AX, AX = rowArr 51 (pkV q xa xc ya yc) := ⟨_, rfl⟩
          have HXV : Hid ((rowArr 51 fun j => pkV q xa xc ya yc j) = AX) := hAX.symm
          have HQV : Hid ((rowArr 51 fun j => pkV q sa sc da dc j) = AQ) := HAQ.out.symm
          have HSM := Lib.hid (same_any q xa xc ya yc sa sc da dc wd (HPX.out.below HWd.out) (HPK4.out.below HBd.out))
          rw [← hAX, ← HAQ.out] at HSM
          clear hAX HR4 HGd HPK4
          refine growK_begin 22 (fun w' => ∃ u : KeepW wd (fun _ => False), w' = u.v) (by kernel_rfl) ?_
          rw [← hwd]
          clear hwd
          refine growK_take (by kernel_rfl) [0, 1, 2, 3, 4, 5, 6, 7, 8, 9, 10, 11, 12, 13, 14, 15, 16, 17, 18, 19] 3 _ _ (by kernel_rfl) _ (keep_class (Fr.refl _ _)) ?_
          simp only [opsAt, List.getElem?_toArray, List.getElem?_cons_succ, List.getElem?_cons_zero]
          repeat (first
            | (refine wpQuiet_load_v (by rfl) 30 _ rfl g0 (k * 52 + 1) 51 _ AX HXV.out rfl _ KF.out Tryd.underlying30 rfl (by kernel_rfl) ?_)
            | (refine wpQuiet_load_v (by rfl) 30 _ rfl pb 0 51 _ AQ HQV.out rfl _ KX.out Tryd.underlying30 rfl (by kernel_rfl) ?_)
            | go_big_quiet_step (fail) | quiet_step (fail))
          refine wpQuiet_nil ?_
          refine growK_one 20 (by kernel_rfl) (fun K hK => ?_)
          simp only [stepOf, List.getElem?_toArray, List.getElem?_cons_succ, List.getElem?_cons_zero]
          go_simp
          go_at_call 14
          (with_reducible refine HSM.out.mono ?_)
          rintro e w5 ⟨rfl, b5⟩
          have HW5 : Hid (Below w2.heap.size w2 w5) := HWd.out.trans (b5.mono HWd.out.size)
          have HF5 : Hid (Fr (fun _ => False) wd w5) := Fr.of_below b5
          refine hK.out _ _ (keep_class HF5.out) ?_
          clear hK K b5 HSM kat KF KX
          refine growK_take (by kernel_rfl) [21] 1 _ _ (by kernel_rfl) _ (keep_class HF5.out) ?_
          simp only [opsAt, List.getElem?_toArray, List.getElem?_cons_succ, List.getElem?_cons_zero]
          repeat (first | go_big_quiet_step (fail) | quiet_step (fail))
          refine wpQuiet_nil ?_
          refine growK_last (by kernel_rfl) (by kernel_rfl) (fun K hK => ?_)
          simp only [stepOf, List.getElem?_toArray, List.getElem?_cons_succ, List.getElem?_cons_zero]
          go_simp
          refine hK.out _ _ ?_
          clear hK K
          go_wp2_with fail
          go_roundw
          case rel => exact ⟨k + 1, i + n, by omega, by omega, by go_num, by go_num, HW5, HK4⟩
          case measure => simp [intOf]; omega
        | form =>
          have HND : Hid (∀ p n, decN (l.drop i) ≠ .ok p n) := fun p n h => by rw [hd] at h; cases h
          obtain ⟨ZA, hZA⟩ : ∃ ZA, ZA = rowArr 51 (pkV zPk none 0 none 0) := ⟨_, rfl⟩
          have HQ1 : Hid (ZA.all (·.oneCell') = true) := by show _ = _; rw [hZA]; exact oneCell_pk _ _ _ _ _
          have HQS : Hid (ZA.size = 51) := by show _ = _; rw [hZA, rowArr_size]
          have HD2 : Hid (Calls Tryd.prog 12 #[.slice a2 (l.length - i) (c - i)] wr fun e w' => e = .returned (.tuple #[.agg ZA, .int .i64 0, .int .i64 2]) ∧ Below wr.heap.size wr w') := HD.out.mono fun e w' h => by
            unfold DecPost at h
            rw [hd] at h
            rw [hZA]
            exact h
          clear HD hd hZA
          go_wp2_with fail
          (with_reducible refine HD2.out.mono ?_)
          rintro e w3 ⟨rfl, b3⟩
          have HB3 := Lib.hid b3
          have HALL : Hid (∀ c : Array Value, (w3.alloc (.cells c 30)).heap[w3.heap.size]? = some (.cells c 30 (0, 0))) := fun c => heap_alloc_last w3 _
          have HALB : Hid (∀ c : Array Value, Below w3.heap.size w3 (w3.alloc (.cells c 30))) := fun c => (Below.refl _ _).alloc (Nat.le_refl _) _
          clear HD2 b3
          go_wp2_with (refine wpList_store_arr rfl 30 _ _ rfl w3.heap.size ZA rfl rfl 30 _ (HALL.out _) (by rw [HQS.out]; kernel_rfl) (by rw [HQS.out]; rfl) HQ1.out ?_; intro w4 HC4 hf4; have HB34 : Hid (Below w3.heap.size w3 w4) := (HALB.out _).trans (hf4.out.below (HALB.out _).size (fun k hk e => by omega)); clear hf4 HALL HALB)
          have HW4 : Hid (Below w2.heap.size w2 w4) := HW.out.trans ((HB3.out.trans (HB34.out.mono HB3.out.size)).mono HW.out.size)
          have HK4 := Lib.hid (finds_next HK.out hlt HND.out)
          go_roundw
          case rel => exact ⟨k, i + 1, by omega, by omega, by go_num, by go_num, HW4, HK4⟩
          case measure => simp [intOf]; omega
        | sum =>
          have HND : Hid (∀ p n, decN (l.drop i) ≠ .ok p n) := fun p n h => by rw [hd] at h; cases h
          obtain ⟨ZA, hZA⟩ : ∃ ZA, ZA = rowArr 51 (pkV zPk none 0 none 0) := ⟨_, rfl⟩
          have HQ1 : Hid (ZA.all (·.oneCell') = true) := by show _ = _; rw [hZA]; exact oneCell_pk _ _ _ _ _
          have HQS : Hid (ZA.size = 51) := by show _ = _; rw [hZA, rowArr_size]
          have HD2 : Hid (Calls Tryd.prog 12 #[.slice a2 (l.length - i) (c - i)] wr fun e w' => e = .returned (.tuple #[.agg ZA, .int .i64 0, .int .i64 11]) ∧ Below wr.heap.size wr w') := HD.out.mono fun e w' h => by
            unfold DecPost at h
            rw [hd] at h
            rw [hZA]
            exact h
          clear HD hd hZA
          go_wp2_with fail
          (with_reducible refine HD2.out.mono ?_)
          rintro e w3 ⟨rfl, b3⟩
          have HB3 := Lib.hid b3
          have HALL : Hid (∀ c : Array Value, (w3.alloc (.cells c 30)).heap[w3.heap.size]? = some (.cells c 30 (0, 0))) := fun c => heap_alloc_last w3 _
          have HALB : Hid (∀ c : Array Value, Below w3.heap.size w3 (w3.alloc (.cells c 30))) := fun c => (Below.refl _ _).alloc (Nat.le_refl _) _
          clear HD2 b3
          go_wp2_with (refine wpList_store_arr rfl 30 _ _ rfl w3.heap.size ZA rfl rfl 30 _ (HALL.out _) (by rw [HQS.out]; kernel_rfl) (by rw [HQS.out]; rfl) HQ1.out ?_; intro w4 HC4 hf4; have HB34 : Hid (Below w3.heap.size w3 w4) := (HALB.out _).trans (hf4.out.below (HALB.out _).size (fun k hk e => by omega)); clear hf4 HALL HALB)
          have HW4 : Hid (Below w2.heap.size w2 w4) := HW.out.trans ((HB3.out.trans (HB34.out.mono HB3.out.size)).mono HW.out.size)
          have HK4 := Lib.hid (finds_next HK.out hlt HND.out)
          go_roundw
          case rel => exact ⟨k, i + 1, by omega, by omega, by go_num, by go_num, HW4, HK4⟩
          case measure => simp [intOf]; omega
      · obtain rfl : i = l.length := by omega
        have hkF : k = F.length := by
          have h := finds_stop HK.out (Nat.le_refl _)
          have h2 := congrArg List.length h
          rw [List.length_map, List.length_drop] at h2
          simp at h2
          omega
        subst hkF
        have dLL : (((F.length : Nat) : Int) == (F.length : Int)) = true := beq_self_eq_true _
        go_wp2_with fail
        go_ret
        exact ⟨rfl, HBw.out⟩
  · have d1 : decide ((3000 : Int) < (l.length : Int)) = true := decide_eq_true (by omega)
    go_enter Tryd.func5, Tryd.ntmps5
    go_upto_region 2 with (go_at_call 8; (with_reducible refine HA0.out.mono ?_); rintro e w1 ⟨rfl, b1⟩; have HB1 := Lib.hid b1; clear b1 HA0)
    have HA1 := Lib.hid (HAW.out w1 HB1.out)
    go_wp2_with fail
    (with_reducible refine HA1.out.mono ?_)
    rintro e w2 ⟨rfl, b2⟩
    have HB2 : Hid (Below w.heap.size w w2) := HB1.out.trans (b2.mono HB1.out.size)
    clear HA1 b2
    go_wp2_with fail
    go_ret
    exact ⟨rfl, HB2.out⟩
end Go.Proofs.YthpfjgbhacdpgaaDoor
