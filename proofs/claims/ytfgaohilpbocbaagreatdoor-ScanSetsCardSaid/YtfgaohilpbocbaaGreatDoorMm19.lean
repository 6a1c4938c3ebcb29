/-
  The document's Formed.
  A set's directory: each packet of it is right; what all of it tells is short.
  Rows of packets: two built at once; a set's name written into one; slices of what is known of slices, cut.
-/
import Derived.Test.YtfgaohilpbocbaaGreatDoorMm18
import Derived.Deep.QuietTactic
import Derived.BigQuiet
import Derived.Laws.CopyRow
section
namespace Go.Proofs.YtfgaohilpbocbaaGreatDoor
open Go.ChangeShapes Go.WideShapes Go.ChangeAt Go.RowKit Go.Joins
set_option linter.unusedVariables false

theorem cnt_bounds {z s : Int} (h0 : 0 ≤ z) (h1 : 1 ≤ s) (h2 : s ≤ 256) (hc : 0 < cntN z s) : (((cntN z s : Nat) : Int) - 1) * s < z ∧ z ≤ ((cntN z s : Nat) : Int) * s := by
  have hz : 1 ≤ z := by
    by_cases h : z < 1
    · rw [cnt_none (.inl h)] at hc; omega
    · omega
  rw [cnt_up hz h1 h2]
  have e := Int.mul_ediv_add_emod (z - 1) s
  have m0 := Int.emod_nonneg (z - 1) (show s ≠ 0 by omega)
  have m1 := Int.emod_lt_of_pos (z - 1) (show 0 < s by omega)
  have e2 : ((z - 1) / s + 1) * s = s * ((z - 1) / s) + s := by rw [Int.add_mul, Int.one_mul, Int.mul_comm]
  have e3 : ((z - 1) / s + 1 - 1) * s = s * ((z - 1) / s) := by rw [Int.add_sub_cancel, Int.mul_comm]
  rw [e2, e3]
  omega
/-- The last slice of a file is what is left; each other one is whole. -/
theorem want_last {z s : Int} (h0 : 0 ≤ z) (h1 : 1 ≤ s) (h2 : s ≤ 256) {k : Nat} (hk : k < cntN z s) : (k + 1 = cntN z s → wantI s z k = z - (k : Int) * s) ∧ (k + 1 ≠ cntN z s → wantI s z k = s) := by
  obtain ⟨b1, b2⟩ := cnt_bounds h0 h1 h2 (by omega)
  obtain ⟨c, hc⟩ : ∃ c, c = cntN z s := ⟨_, rfl⟩
  rw [← hc] at b1 b2 hk ⊢
  unfold wantI
  refine ⟨fun h => ?_, fun h => ?_⟩
  · have e : (c : Int) * s = (k : Int) * s + s := by rw [← h]; push_cast; rw [Int.add_mul, Int.one_mul]
    omega
  · have e : ((k : Int) + 1) * s ≤ ((c : Int) - 1) * s := Int.mul_le_mul_of_nonneg_right (by omega) (by omega)
    rw [Int.add_mul, Int.one_mul] at e
    omega
set_option maxRecDepth 1000000 in
set_option maxHeartbeats 16000000 in
theorem refFormed_any (S : St) (fa : Option Addr) (fc : Nat) (sa : Option Addr) (sc : Nat) (w : World) (hs : SetAt w S fa fc sa sc) :
    Calls Tryz.prog 20 #[.agg (rowArr 3 (setV S fa fc sa sc))] w (FormedPost S w) := by
  have mixed : Tryz.prog.follows .mixedOrders = true := by kernel_rfl
  have hB0 : Below w.heap.size w (w.alloc (.cells (rowArr 3 (setV S fa fc sa sc)) 30)) := (Below.refl _ _).alloc (Nat.le_refl _) _
  have HX := Lib.hid (SetBox.new w S fa fc sa sc)
  have HS := Lib.hid (hs.below hB0)
  have HB := Lib.hid hB0
  have hfl := hs.files.lt
  have hsl := hs.slices.lt
  obtain ⟨sr1, sr2⟩ := hs.slice
  obtain ⟨PQ, hPQ⟩ : ∃ PQ, PQ = FormedPost S w := ⟨_, rfl⟩
  have HPQ := Lib.hid hPQ
  rw [← hPQ]
  obtain ⟨arr, harr⟩ : ∃ arr, arr = rowArr 3 (setV S fa fc sa sc) := ⟨_, rfl⟩
  rw [← harr] at HX HS HB ⊢
  clear harr hB0 hs hPQ
  go_enter Tryz.func20, Tryz.ntmps20
  go_upto_region 1 with fail
  obtain ⟨b, hb⟩ : ∃ b, b = w.heap.size := ⟨_, rfl⟩
  rw [← hb] at HX ⊢
  generalize w.alloc (.cells arr 30) = w1 at *
  clear hb
  have c0 := HX.out.c0
  have c1 := HX.out.c1
  have c2 := HX.out.c2
  have HNO : Hid (∀ w', ¬ FormedP S → Below w.heap.size w w' → PQ (.returned (.bool false)) w') := by
    show ∀ _, _
    rw [HPQ.out]; exact fun w' h hb => FormedPost.no h hb
  by_cases q1 : S.slice < 1
  · have d : decide (S.slice < 1) = true := decide_eq_true q1
    have HR := Lib.hid (HNO.out w1 (fun h => by have := h.s1; omega) HB.out)
    go_wp2_with fail
    exact HR.out
  have d1 : decide (S.slice < 1) = false := decide_eq_false q1
  by_cases q2 : 256 < S.slice
  · have d : decide (256 < S.slice) = true := decide_eq_true q2
    have HR := Lib.hid (HNO.out w1 (fun h => by have := h.s2; omega) HB.out)
    go_wp2_with fail
    exact HR.out
  have d2 : decide (256 < S.slice) = false := decide_eq_false q2
  by_cases q4 : S.files.length < 1
  · have d : decide ((S.files.length : Int) < 1) = true := decide_eq_true (by omega)
    have HR := Lib.hid (HNO.out w1 (fun h => by have := h.f1; omega) HB.out)
    go_wp2_with fail
    exact HR.out
  have d4 : decide ((S.files.length : Int) < 1) = false := decide_eq_false (by omega)
  by_cases q5 : 8 < S.files.length
  · have d : decide ((8 : Int) < (S.files.length : Int)) = true := decide_eq_true (by omega)
    have HR := Lib.hid (HNO.out w1 (fun h => by have := h.f2; omega) HB.out)
    go_wp2_with fail
    exact HR.out
  have d5 : decide ((8 : Int) < (S.files.length : Int)) = false := decide_eq_false (by omega)
  by_cases q3 : 64 < S.slices.length
  · have d : decide ((64 : Int) < (S.slices.length : Int)) = true := decide_eq_true (by omega)
    have HR := Lib.hid (HNO.out w1 (fun h => by have := h.m1; omega) HB.out)
    go_wp2_with fail
    exact HR.out
  have d3 : decide ((64 : Int) < (S.slices.length : Int)) = false := decide_eq_false (by omega)
  have hL8 : S.files.length ≤ 8 := by omega
  have hM64 : S.slices.length ≤ 64 := by omega
  have s1 : 1 ≤ S.slice := by omega
  have s2 : S.slice ≤ 256 := by omega
  have HYES : Hid (Good S S.files.length S.slices.length → FormedP S) := fun g => ⟨s1, s2, hM64, by omega, hL8, g⟩
  go_upto_region 4 with fail
  clear d1 d2 d3 d4 d5 q1 q2 q3 q4 q5
  go_wp2_with fail
  have HG0 : Hid (Good S 0 0) := .zero
  have HW0 : Hid (Below w1.heap.size w1 w1) := Below.refl _ _
  go_loopw [3, 39] (fun t i wr => ∃ n k : Nat, k ≤ S.files.length ∧ t = .int .i64 n ∧ i = .int .i64 k ∧ Hid (Good S k n) ∧ Hid (Below w1.heap.size w1 wr)) (fun _ i _ => S.files.length - (intOf i).toNat)
  case atStart => exact ⟨0, 0, by omega, rfl, rfl, HG0, HW0⟩
  case round =>
    obtain ⟨n, k, hk, rfl, rfl, HG, HW⟩ := hrel
    clear HG0 HW0
    have hn64 : n ≤ 64 := by have := HG.out.room; omega
    by_cases hlt : k < S.files.length
    · have HNR : Hid (∀ w', ¬ FileOk S n k → Below w1.heap.size w1 w' → PQ (.returned (.bool false)) w') := fun w' h hb => HNO.out w' (fun hf => h (not_formed HG.out hlt hf)) (HB.out.trans (hb.mono HB.out.size))
      obtain ⟨fb, off, rfl, hbl, hx⟩ := fils_one (HS.out.files.below HW.out) hlt
      have hok := HS.out.files.rng _ (List.getElem_mem hlt)
      have hgd : S.files.getD k zFil = S.files[k] := by simp [List.getD, hlt]
      obtain ⟨f, hf⟩ : ∃ f, f = S.files[k] := ⟨_, rfl⟩
      rw [← hf] at hx hok hgd
      have HGD := Lib.hid hgd
      have HOK := Lib.hid hok
      have HXC := Lib.hid hx
      obtain ⟨SX, hSX⟩ : ∃ SX, SX = rowArr 35 (filV f) := ⟨_, rfl⟩
      have VX : Hid (rowArr 35 (filV f) = SX) := hSX.symm
      have hSXs : SX.size = 35 := by rw [hSX, rowArr_size]
      have hSX1 : SX.all (·.oneCell') = true := by rw [hSX]; exact oneCell_fil f
      have HSXs := Lib.hid hSXs
      have HSX1 := Lib.hid hSX1
      have HALL : Hid (∀ c : Array Value, (wr.alloc (.cells c 98)).heap[wr.heap.size]? = some (.cells c 98 (0, 0))) := fun c => heap_alloc_last wr _
      have HALB : Hid (∀ c : Array Value, Below wr.heap.size wr (wr.alloc (.cells c 98))) := fun c => (Below.refl _ _).alloc (Nat.le_refl _) _
      have cr1 : wr.cell? ⟨b, 1, none⟩ = some (.slice (some ⟨fb, off, none⟩) S.files.length fc) := (HX.out.below HW.out).c1
      clear hx hok hf hSX hSXs hSX1 hgd
      go_upto_region 8 with (first
        | (refine wpList_load_v (by rfl) 98 _ rfl fb (off + k * 35) 35 _ SX VX.out rfl _ HXC.out und_file rfl (by kernel_rfl) ?_)
        | (refine wpList_store_arr rfl 98 _ _ rfl wr.heap.size SX rfl rfl 98 _ (HALL.out _) (by rw [HSXs.out]; kernel_rfl) (by rw [HSXs.out]; rfl) HSX1.out ?_; intro w7 HC7 hf7; have HB67 : Hid (Below wr.heap.size wr w7) := (HALB.out _).trans (hf7.out.below (HALB.out _).size (fun k hk e => by omega)); clear hf7 HALL HALB))
      have HW7 := Lib.hid (HW.out.trans (HB67.out.mono HW.out.size))
      obtain ⟨g, hg⟩ : ∃ g, g = wr.heap.size := ⟨_, rfl⟩
      rw [← hg] at HC7
      rw [← hg]
      rw [← VX.out] at HC7
      have HX7 : Hid (Row w7 g 98 35 35 (filV f)) := Row.of_whole HC7.out
      clear HB67 HC7 HXC VX HSXs HSX1 hg HW cr1
      obtain ⟨r0, r1, r34⟩ := fil_row HX7.out
      have g0 : w7.cell? ⟨b, 0, none⟩ = some (.int .i64 S.slice) := (HX.out.below HW7.out).c0
      have HCN := Lib.hid (fun w => count_any f.size S.slice w HOK.out.size HS.out.slice)
      obtain ⟨c, hc⟩ : ∃ c, c = cntN f.size S.slice := ⟨_, rfl⟩
      rw [← hc] at HCN
      have HCC := Lib.hid hc
      have hc63 : c ≤ 9223372036854775807 := by rw [hc]; have := cntN_le f.size S.slice; have := HOK.out.size.2; omega
      clear hc
      go_upto_region 9 with (go_at_call 47; refine (HCN.out _).mono ?_; rintro e w' ⟨rfl, hw⟩; obtain rfl := hw)
      clear HCN
      have hnz : (strOf f.name).size ≤ 9223372036854775807 := by rw [strOf_size]; exact HOK.out.short
      have HP := Lib.hid (refPath_any (strOf f.name) hnz w7)
      obtain ⟨q, hq⟩ : ∃ q, q = nameB (strOf f.name).data.toList := ⟨_, rfl⟩
      rw [← hq] at HP
      clear r1 r34 g0 hnz
      cases q
      · have HR : Hid (∀ w', Below w1.heap.size w1 w' → PQ (.returned (.bool false)) w') := fun w' hb => HNR.out w' (fun h => by have := h.name; rw [HGD.out, nameL_eq, ← hq] at this; cases this) hb
        clear HNR hq
        go_wp2_with (go_at_call 48; refine HP.out.mono ?_; rintro e w8 ⟨rfl, hb8⟩; have HW8 := Lib.hid (HW7.out.trans (hb8.mono HW7.out.size)); have HX8 := Lib.hid (HX7.out.below hb8 HX7.out.lt); have r1 := (fil_row HX8.out).2.1; have r34 := (fil_row HX8.out).2.2; have b2 : w8.cell? ⟨b, 2, none⟩ = some (.slice sa S.slices.length sc) := (HX.out.below HW8.out).c2; clear hb8)
        exact HR.out w8 HW8.out
      have HNM : Hid (nameL f.name = true) := by show _ = _; rw [nameL_eq, ← hq]
      clear hq
      by_cases p1 : f.size < 0
      · have e1 : decide (f.size < 0) = true := decide_eq_true p1
        have HR : Hid (∀ w', Below w1.heap.size w1 w' → PQ (.returned (.bool false)) w') := fun w' hb => HNR.out w' (fun h => by have := h.size; rw [HGD.out] at this; omega) hb
        clear HNR
        go_wp2_with (go_at_call 48; refine HP.out.mono ?_; rintro e w8 ⟨rfl, hb8⟩; have HW8 := Lib.hid (HW7.out.trans (hb8.mono HW7.out.size)); have HX8 := Lib.hid (HX7.out.below hb8 HX7.out.lt); have r1 := (fil_row HX8.out).2.1; have r34 := (fil_row HX8.out).2.2; have b2 : w8.cell? ⟨b, 2, none⟩ = some (.slice sa S.slices.length sc) := (HX.out.below HW8.out).c2; clear hb8)
        exact HR.out w8 HW8.out
      have e1 : decide (f.size < 0) = false := decide_eq_false p1
      have f0 : 0 ≤ f.size := by omega
      by_cases p2 : f.first = (n : Int)
      case' neg =>
        have e2 : (f.first == (n : Int)) = false := beq_false_of_ne p2
        have HR : Hid (∀ w', Below w1.heap.size w1 w' → PQ (.returned (.bool false)) w') := fun w' hb => HNR.out w' (fun h => by have := h.first; rw [HGD.out] at this; exact p2 this) hb
        clear HNR
        go_wp2_with (go_at_call 48; refine HP.out.mono ?_; rintro e w8 ⟨rfl, hb8⟩; have HW8 := Lib.hid (HW7.out.trans (hb8.mono HW7.out.size)); have HX8 := Lib.hid (HX7.out.below hb8 HX7.out.lt); have r1 := (fil_row HX8.out).2.1; have r34 := (fil_row HX8.out).2.2; have b2 : w8.cell? ⟨b, 2, none⟩ = some (.slice sa S.slices.length sc) := (HX.out.below HW8.out).c2; clear hb8)
        exact HR.out w8 HW8.out
      have e2 : (f.first == (n : Int)) = true := beq_iff_eq.2 p2
      have hnM := HG.out.room
      obtain ⟨r, hr⟩ : ∃ r : Nat, (S.slices.length : Int) - (n : Int) = (r : Int) := ⟨S.slices.length - n, by omega⟩
      have hrl : n + r = S.slices.length := by omega
      have HRL := Lib.hid hrl
      clear hrl
      by_cases p4 : r < c
      · have d1 : decide (r < c) = true := decide_eq_true p4
        have d2 : decide ((r : Int) < (c : Int)) = true := decide_eq_true (by omega)
        have HR : Hid (∀ w', Below w1.heap.size w1 w' → PQ (.returned (.bool false)) w') := fun w' hb => HNR.out w' (fun h => by have h1 := h.room; have h2 := HRL.out; rw [HGD.out, ← HCC.out] at h1; omega) hb
        clear HNR
        go_wp2_with (go_at_call 48; refine HP.out.mono ?_; rintro e w8 ⟨rfl, hb8⟩; have HW8 := Lib.hid (HW7.out.trans (hb8.mono HW7.out.size)); have HX8 := Lib.hid (HX7.out.below hb8 HX7.out.lt); have r1 := (fil_row HX8.out).2.1; have r34 := (fil_row HX8.out).2.2; have b2 : w8.cell? ⟨b, 2, none⟩ = some (.slice sa S.slices.length sc) := (HX.out.below HW8.out).c2; clear hb8)
        exact HR.out w8 HW8.out
      have d1 : decide (r < c) = false := decide_eq_false p4
      have d2 : decide ((r : Int) < (c : Int)) = false := decide_eq_false (by omega)
      have hnc : n + c ≤ S.slices.length := by have := HRL.out; omega
      have hc64 : c ≤ 64 := by omega
      go_upto_region 11 with (go_at_call 48; refine HP.out.mono ?_; rintro e w8 ⟨rfl, hb8⟩; have HW8 := Lib.hid (HW7.out.trans (hb8.mono HW7.out.size)); have HX8 := Lib.hid (HX7.out.below hb8 HX7.out.lt); have r1 := (fil_row HX8.out).2.1; have r34 := (fil_row HX8.out).2.2; have b2 : w8.cell? ⟨b, 2, none⟩ = some (.slice sa S.slices.length sc) := (HX.out.below HW8.out).c2; clear hb8)
      clear HP HX7 HW7 r0 r1 r34 b2 d1 d2 e1 e2 hr HRL p4
      go_wp2_with fail
      -- no name twice
      obtain ⟨wo, rfl⟩ : ∃ wo, wo = wr := ⟨_, rfl⟩
      have HA0 : Hid (∀ j, j < 0 → (S.files.getD j zFil).name ≠ f.name) := fun j h => by omega
      have HV0 : Hid (Below w8.heap.size w8 w8) := Below.refl _ _
      go_loopw [77] (fun i wr => ∃ t : Nat, t ≤ k ∧ i = .int .i64 t ∧ Hid (∀ j, j < t → (S.files.getD j zFil).name ≠ f.name) ∧ Hid (Below w8.heap.size w8 wr)) (fun i _ => k - (intOf i).toNat)
      case atStart => exact ⟨0, by omega, rfl, HA0, HV0⟩
      case round =>
        obtain ⟨t, ht, rfl, HA, HV⟩ := hrel
        clear HA0 HV0
        by_cases htk : t < k
        · have htl : t < S.files.length := by omega
          have hfo := HS.out.files.here.resolve_left (fun e => by rw [e] at hlt; simp at hlt)
          obtain ⟨fb', off', he, hb', hxx⟩ := hfo
          cases he
          have hxt := hxx t htl
          have hgt : S.files.getD t zFil = S.files[t] := by simp [List.getD, htl]
          have hokt := HS.out.files.rng _ (List.getElem_mem htl)
          obtain ⟨ft, hft⟩ : ∃ ft, ft = S.files[t] := ⟨_, rfl⟩
          rw [← hft] at hxt hgt hokt
          have hVW : Below w1.heap.size w1 wr := HW8.out.trans (HV.out.mono HW8.out.size)
          have ct : wr.cell? ⟨fb, off + t * 35, none⟩ = some (.string (strOf ft.name)) := (hxt.below hVW) 0 (by omega)
          have cb : wr.cell? ⟨b, 1, none⟩ = some (.slice (some ⟨fb, off, none⟩) S.files.length fc) := (HX.out.below hVW).c1
          have cg : wr.cell? ⟨g, 0, none⟩ = some (.string (strOf f.name)) := (HV.out.cell (World.block_lt_of_cell? w8 _ (fil_row HX8.out).1)).trans (fil_row HX8.out).1
          obtain ⟨q2, hq2⟩ : ∃ q2, q2 = decide (ft.name = f.name) := ⟨_, rfl⟩
          have HQ : ((strOf ft.name).toList == (strOf f.name).toList) = q2 := by rw [hq2]; exact str_beq hokt.byte HOK.out.byte
          obtain ⟨A, hA⟩ : ∃ A, A = strOf ft.name := ⟨_, rfl⟩
          obtain ⟨B, hB⟩ : ∃ B, B = strOf f.name := ⟨_, rfl⟩
          rw [← hA] at HQ ct
          rw [← hB] at HQ cg
          cases q2
          · have HA2 : Hid (∀ j, j < t + 1 → (S.files.getD j zFil).name ≠ f.name) := fun j hj => by
              by_cases e : j = t
              · subst e; rw [hgt]; exact of_decide_eq_false hq2.symm
              · exact HA.out j (by omega)
            clear hxx hxt hgt hft hokt hVW hq2 hA hB
            go_wp2_with fail
            go_quiet (fail)
            have HV2 := Lib.hid (HV.out.trans (show Below w8.heap.size wr (wr.drewN nq) from ⟨rfl, rfl, rfl, Nat.le_refl _, fun _ _ => rfl⟩))
            go_wp2_with fail
            go_roundw
            case rel => exact ⟨t + 1, by omega, by go_num, HA2, HV2⟩
            case measure => simp [intOf]; omega
          · have HR : Hid (∀ w', Below w1.heap.size w1 w' → PQ (.returned (.bool false)) w') := fun w' hb => HNR.out w' (fun h => by
              have h1 := h.once t htk
              rw [HGD.out, hgt] at h1
              exact h1 (of_decide_eq_true hq2.symm)) hb
            have HVW := Lib.hid hVW
            clear hxx hxt hgt hft hokt hVW hq2 hA hB HNR
            go_wp2_with fail
            go_quiet (fail)
            go_wp2_with fail
            exact HR.out _ (HVW.out.trans (show Below w1.heap.size wr (wr.drewN nq) from ⟨rfl, rfl, rfl, Nat.le_refl _, fun _ _ => rfl⟩))
        · obtain rfl : t = k := by omega
          have HVK := Lib.hid (HW8.out.trans (HV.out.mono HW8.out.size))
          have HVQ := Lib.hid HV.out
          clear HV
          go_wp2_with fail
          obtain ⟨wq, rfl⟩ : ∃ wq, wq = wr := ⟨_, rfl⟩
          have cg1 : wq.cell? ⟨g, 1, none⟩ = some (.int .i64 f.size) := by
            have e := (fil_row HX8.out).2.1
            have : w8.heap.size ≤ wq.heap.size := HVQ.out.size
            exact (HVQ.out.cell (World.block_lt_of_cell? w8 _ e)).trans e
          have hgq : g < wq.heap.size := World.block_lt_of_cell? wq _ cg1
          have HD0 : Hid (∀ i, i < 0 → (S.slices.getD (n + i) zSm).n = wantI S.slice f.size i) := fun j h => by omega
          have HU0 : Hid (Below wq.heap.size wq wq) := Below.refl _ _
          go_loopw [91] (fun i wr => ∃ u : Nat, u ≤ c ∧ i = .int .i64 u ∧ Hid (∀ i, i < u → (S.slices.getD (n + i) zSm).n = wantI S.slice f.size i) ∧ Hid (Below wq.heap.size wq wr)) (fun i _ => c - (intOf i).toNat)
          case atStart => exact ⟨0, by omega, rfl, HD0, HU0⟩
          case round =>
            obtain ⟨u, hu, rfl, HD, HU⟩ := hrel
            clear HD0 HU0
            have HUW := Lib.hid (HVK.out.trans (HU.out.mono HVK.out.size))
            by_cases huc : u < c
            · have hul : n + u < S.slices.length := by omega
              obtain ⟨sb, soff, rfl, hsb, hsx⟩ := sms_one HS.out.slices hul
              have hgx : S.slices.getD (n + u) zSm = S.slices[n + u] := by simp [List.getD, hul]
              have hokx := (HS.out.slices.rng _ (List.getElem_mem hul)).1
              have hx0 := (hsx.below HUW.out).1
              obtain ⟨xn, hxn⟩ : ∃ xn, xn = (S.slices[n + u]).n := ⟨_, rfl⟩
              rw [← hxn] at hx0 hokx
              obtain ⟨hn1, hn2⟩ := hokx
              have HXN : Hid ((S.slices.getD (n + u) zSm).n = xn) := by show _ = _; rw [hgx, hxn]
              have b0 : wr.cell? ⟨b, 0, none⟩ = some (.int .i64 S.slice) := (HX.out.below HUW.out).c0
              have b2 : wr.cell? ⟨b, 2, none⟩ = some (.slice (some ⟨sb, soff, none⟩) S.slices.length sc) := (HX.out.below HUW.out).c2
              have g1 : wr.cell? ⟨g, 1, none⟩ = some (.int .i64 f.size) := (HU.out.cell hgq).trans cg1
              obtain ⟨m, hm⟩ : ∃ m, (u : Int) * S.slice = m := ⟨_, rfl⟩
              have hm0 : 0 ≤ m := by rw [← hm]; exact Int.mul_nonneg (by omega) (by omega)
              have hm1 : m ≤ 16384 := by
                rw [← hm]
                have a1 : (u : Int) * S.slice ≤ 64 * S.slice := Int.mul_le_mul_of_nonneg_right (by omega) (by omega)
                omega
              have hWL := want_last f0 s1 s2 (k := u) (by rw [← HCC.out]; exact huc)
              rw [← HCC.out, hm] at hWL
              obtain ⟨c', hc'⟩ : ∃ c' : Nat, (c : Int) - 1 = (c' : Int) := ⟨c - 1, by omega⟩
              have HT : Hid (∀ t, wantI S.slice f.size u = t → xn = t → ∀ i, i < u + 1 → (S.slices.getD (n + i) zSm).n = wantI S.slice f.size i) := fun t h1 h2 i hi => by
                by_cases e : i = u
                · subst e; rw [HXN.out, h1, h2]
                · exact HD.out i (by omega)
              have HF : Hid (∀ t, wantI S.slice f.size u = t → ¬ xn = t → ∀ w', Below w1.heap.size w1 w' → PQ (.returned (.bool false)) w') := fun t h1 h2 w' hb => HNR.out w' (fun h => h2 (by
                have h3 := h.cut u (by rw [HGD.out, ← HCC.out]; exact huc)
                rw [HGD.out, HXN.out, h1] at h3
                exact h3)) hb
              clear hsx hgx hxn HXN HD
              by_cases hlast : u + 1 = c
              · have y1 : ((u : Int) == (c' : Int)) = true := beq_iff_eq.2 (by omega)
                obtain ⟨t, ht⟩ : ∃ t, f.size - m = t := ⟨_, rfl⟩
                have t1 : -9223372036854775808 ≤ t := by omega
                have t2 : t ≤ 9223372036854775807 := by have := HOK.out.size.2; omega
                have hw := hWL.1 hlast
                rw [ht] at hw
                by_cases hx : xn = t
                · have z1 : (xn == t) = true := beq_iff_eq.2 hx
                  have HD2 := Lib.hid (HT.out t hw hx)
                  clear HT HF hw hWL hx hlast
                  go_wp2_with fail
                  go_roundw
                  case rel => exact ⟨u + 1, by omega, by go_num, HD2, HU⟩
                  case measure => simp [intOf]; omega
                · have z1 : (xn == t) = false := beq_false_of_ne hx
                  have HR := Lib.hid (HF.out t hw hx)
                  clear HT HF hw hWL hx hlast
                  go_wp2_with fail
                  exact HR.out _ HUW.out
              · have y1 : ((u : Int) == (c' : Int)) = false := beq_false_of_ne (by omega)
                have hw := hWL.2 hlast
                by_cases hx : xn = S.slice
                · have z1 : (xn == S.slice) = true := beq_iff_eq.2 hx
                  have HD2 := Lib.hid (HT.out S.slice hw hx)
                  clear HT HF hw hWL hx hlast
                  go_wp2_with fail
                  go_roundw
                  case rel => exact ⟨u + 1, by omega, by go_num, HD2, HU⟩
                  case measure => simp [intOf]; omega
                · have z1 : (xn == S.slice) = false := beq_false_of_ne hx
                  have HR := Lib.hid (HF.out S.slice hw hx)
                  clear HT HF hw hWL hx hlast
                  go_wp2_with fail
                  exact HR.out _ HUW.out
            · obtain rfl : u = c := by omega
              have HNX : Hid (Good S (t + 1) (n + u)) := by
                have := Good.next HG.out hlt ⟨by rw [HGD.out]; exact f0, by rw [HGD.out]; exact p2, by rw [HGD.out]; exact HNM.out, fun j hj => by rw [HGD.out]; exact HA.out j hj, by rw [HGD.out, ← HCC.out]; exact hnc, fun i hi => by
                  rw [HGD.out] at hi ⊢
                  rw [← HCC.out] at hi
                  exact HD.out i hi⟩
                rw [HGD.out, ← HCC.out] at this
                exact this
              go_wp2_with fail
              go_roundw
              case rel => exact ⟨n + u, t + 1, by omega, by go_num, by go_num, HNX, HUW⟩
              case measure => simp [intOf]; omega
    · obtain rfl : k = S.files.length := by omega
      have HR : Hid (∀ r : Bool, (r = true ↔ n = S.slices.length) → PQ (.returned (.bool r)) wr) := by
        show ∀ _, _
        rw [HPQ.out]
        intro r hr
        refine ⟨⟨r, rfl, fun h => HYES.out (by rw [← hr.1 h]; exact HG.out), fun h => hr.2 (HG.out.one h.good)⟩, HB.out.trans (HW.out.mono HB.out.size)⟩
      have e2 : wr.cell? ⟨b, 2, none⟩ = some (.slice sa S.slices.length sc) := (HX.out.below HW.out).c2
      clear HG HYES
      go_wp2_with fail
      exact HR.out _ (by rw [beq_iff_eq]; omega)
end Go.Proofs.YtfgaohilpbocbaaGreatDoor
end

section
namespace Go.Proofs.YtfgaohilpbocbaaGreatDoor
open Go.ChangeShapes Go.WideShapes Go.ChangeAt Go.RowKit Go.Joins
set_option linter.unusedVariables false

theorem name_len {l : List Nat} (h : nameL l = true) : l.length ≤ 40 := by
  have := ((nameB_iff _).1 h).1
  simpa using this
theorem pkIn_main {S : St} (h : i64R S.slice) (h1 : S.files.length ≤ 9223372036854775807) (h2 : S.slices.length ≤ 9223372036854775807) : PkIn (mainP S) := by
  have z := i64R_small 0 (by decide)
  exact ⟨by simp [mainP, z8], fun y hy => by simp [mainP, z8] at hy; omega, i64R_small 1 (by decide), h, by unfold i64R; simp [mainP]; omega, by unfold i64R; simp [mainP]; omega, z, zFil_ok, fun x hx => (by cases hx), by simp [mainP], fun y hy => (by cases hy)⟩
theorem pkIn_file {i : Nat} {f : Fil} (hi : i ≤ 9223372036854775807) (h : FilOk f) : PkIn (fileP i f) := by
  have z := i64R_small 0 (by decide)
  exact ⟨by simp [fileP, z8], fun y hy => by simp [fileP, z8] at hy; omega, i64R_small 2 (by decide), z, z, z, by unfold i64R; simp [fileP]; omega, h, fun x hx => (by cases hx), by simp [fileP], fun y hy => (by cases hy)⟩
theorem pkIn_sums {i : Nat} {l : List Sm} (hi : i ≤ 9223372036854775807) (h : ∀ x ∈ l, SmOk x) : PkIn (sumsP i l) := by
  have z := i64R_small 0 (by decide)
  exact ⟨by simp [sumsP, z8], fun y hy => by simp [sumsP, z8] at hy; omega, i64R_small 3 (by decide), z, z, z, by unfold i64R; simp [sumsP]; omega, zFil_ok, h, by simp [sumsP], fun y hy => (by cases hy)⟩
theorem cost_app (a b : List Pk) : costN (a ++ b) = costN a + costN b := by unfold costN; simp
structure DirIn (S : St) : Prop where
  slice : i64R S.slice
  files : ∀ f ∈ S.files, FilOk f
  slices : ∀ x ∈ S.slices, SmOk x
  s1 : 1 ≤ S.slice
  s2 : S.slice ≤ 256
  m1 : S.slices.length ≤ 64
  f2 : S.files.length ≤ 8
theorem fil_getD {S : St} (h : DirIn S) {k : Nat} (hk : k < S.files.length) : FilOk (S.files.getD k zFil) := by
  have : S.files.getD k zFil = S.files[k] := by simp [List.getD, hk]
  rw [this]; exact h.files _ (List.getElem_mem hk)
theorem part_len {S : St} {k n : Nat} (h : FileOk S n k) : (partS S k).length = cntN (S.files.getD k zFil).size S.slice := by
  unfold partS
  rw [List.length_take, List.length_drop, h.first]
  have := h.room
  simp only [Int.toNat_natCast]
  omega
theorem part_mem {S : St} {k : Nat} : ∀ x ∈ partS S k, x ∈ S.slices := fun x hx => List.mem_of_mem_drop (List.mem_of_mem_take hx)
theorem partS_get {S : St} {k n : Nat} (h : FileOk S n k) {i : Nat} (hi : i < (partS S k).length) : (partS S k)[i] = S.slices.getD (n + i) zSm := by
  have h1 := part_len h
  have h2 := h.room
  have e : (S.files.getD k zFil).first.toNat = n := by rw [h.first]; simp
  have hlt : n + i < S.slices.length := by omega
  have h3 : (partS S k)[i]? = some (S.slices[n + i]) := by
    unfold partS
    rw [List.getElem?_take_of_lt (by omega), List.getElem?_drop, e, List.getElem?_eq_getElem hlt]
  have h4 : (partS S k)[i] = S.slices[n + i] := by
    rw [List.getElem?_eq_getElem hi] at h3
    exact Option.some.inj h3
  rw [h4]
  simp [List.getD, hlt]
theorem size_lt {S : St} (hd : DirIn S) {k n : Nat} (h : FileOk S n k) : (S.files.getD k zFil).size < 4294967296 := by
  obtain ⟨z, hz⟩ : ∃ z, z = (S.files.getD k zFil).size := ⟨_, rfl⟩
  have h0 := h.size
  have hr := h.room
  have hm := hd.m1
  rw [← hz] at h0 hr ⊢
  by_cases hc : 0 < cntN z S.slice
  · obtain ⟨_, b⟩ := cnt_bounds h0 hd.s1 hd.s2 hc
    have a1 : ((cntN z S.slice : Nat) : Int) * S.slice ≤ 64 * S.slice := Int.mul_le_mul_of_nonneg_right (by omega) (by have := hd.s1; omega)
    have := hd.s2
    omega
  · by_cases hz1 : z < 1
    · omega
    · have := cnt_up (n := z) (s := S.slice) (by omega) hd.s1 hd.s2
      have : 0 ≤ (z - 1) / S.slice := Int.ediv_nonneg (by omega) (by have := hd.s1; omega)
      omega
theorem want_pos {z s : Int} (h0 : 0 ≤ z) (h1 : 1 ≤ s) (h2 : s ≤ 256) {k : Nat} (hk : k < cntN z s) : 0 ≤ wantI s z k ∧ wantI s z k < 65536 := by
  obtain ⟨b1, b2⟩ := cnt_bounds h0 h1 h2 (by omega)
  have e : (k : Int) * s ≤ ((cntN z s : Nat) - 1 : Int) * s := Int.mul_le_mul_of_nonneg_right (by omega) (by omega)
  unfold wantI
  omega
theorem ok_file {S : St} (hd : DirIn S) {k n : Nat} (hk : k < S.files.length) (hn : n ≤ 64) (h : FileOk S n k) : pkOk (fileP k (S.files.getD k zFil)) := by
  have hl := name_len h.name
  have := hd.f2
  refine .inr (.inl ⟨rfl, ⟨rfl, rfl, rfl⟩, ⟨by show (0 : Int) ≤ (k : Int); omega, by show (k : Int) < 256; omega⟩, by show (S.files.getD k zFil).name.length < 256; omega, ⟨h.size, size_lt hd h⟩, ⟨?_, ?_⟩, rfl, ⟨rfl, rfl⟩⟩)
  · show 0 ≤ (S.files.getD k zFil).first
    rw [h.first]; omega
  · show (S.files.getD k zFil).first < 65536
    rw [h.first]; omega
theorem ok_sums {S : St} (hd : DirIn S) {k n : Nat} (hk : k < S.files.length) (h : FileOk S n k) : pkOk (sumsP k (partS S k)) := by
  have := hd.f2
  have hl := part_len h
  have hr := h.room
  have hm := hd.m1
  refine .inr (.inr (.inl ⟨rfl, ⟨rfl, rfl, rfl⟩, rfl, ⟨rfl, rfl⟩, ⟨by show (0 : Int) ≤ (k : Int); omega, by show (k : Int) < 256; omega⟩, by show (partS S k).length < 65536; omega, fun x hx => ?_⟩))
  have hx : x ∈ partS S k := hx
  obtain ⟨i, hi, e⟩ := List.getElem_of_mem hx
  rw [partS_get h hi] at e
  rw [← e, h.cut i (by omega)]
  exact want_pos h.size hd.s1 hd.s2 (by omega)
theorem ok_main {S : St} (hd : DirIn S) : pkOk (mainP S) := by
  have h1 := hd.s1; have h2 := hd.s2; have h3 := hd.m1; have h4 := hd.f2
  exact .inl ⟨rfl, ⟨by show 0 ≤ S.slice; omega, by show S.slice < 65536; omega⟩, ⟨by show (0 : Int) ≤ (S.files.length : Int); omega, by show (S.files.length : Int) < 256; omega⟩, ⟨by show (0 : Int) ≤ (S.slices.length : Int); omega, by show (S.slices.length : Int) < 65536; omega⟩, rfl, rfl, rfl, ⟨rfl, rfl⟩⟩
/-- The directory of the first files. -/
theorem dir_ok {S : St} (hd : DirIn S) {k n : Nat} (g : Good S k n) : (∀ p ∈ dirTo S k, PkIn p ∧ pkOk p ∧ p.file.name.length ≤ 40 ∧ p.data = [] ∧ p.set = z8) ∧ costN (dirTo S k) ≤ 100 + 240 * k + 44 * n := by
  have hf2 := hd.f2
  have hm1 := hd.m1
  induction g with
  | zero =>
    refine ⟨fun p hp => ?_, by simp [costN, dirTo, tellQ, mainP, zFil]⟩
    obtain rfl : p = mainP S := by simpa [dirTo] using hp
    exact ⟨pkIn_main hd.slice (by omega) (by omega), ok_main hd, by simp [mainP, zFil], rfl, rfl⟩
  | @next k n g hk ok ih =>
    obtain ⟨i1, i2⟩ := ih
    have hn := g.room
    have hl := name_len ok.name
    have hpl := part_len ok
    have hr := ok.room
    refine ⟨fun p hp => ?_, ?_⟩
    · rw [dirTo] at hp
      rcases List.mem_append.1 hp with hp | hp
      · exact i1 p hp
      · simp only [List.mem_cons, List.mem_nil_iff, or_false] at hp
        rcases hp with rfl | rfl
        · exact ⟨pkIn_file (by omega) (fil_getD hd hk), ok_file hd hk (by omega) ok, hl, rfl, rfl⟩
        · exact ⟨pkIn_sums (by omega) fun x hx => hd.slices x (part_mem x hx), ok_sums hd hk ok, by simp [sumsP, zFil], rfl, rfl⟩
    · rw [dirTo, cost_app]
      have e : costN [fileP k (S.files.getD k zFil), sumsP k (partS S k)] = 200 + (S.files.getD k zFil).name.length + 44 * (partS S k).length := by
        simp [costN, tellQ, fileP, sumsP, zFil]
        omega
      rw [e]
      omega
end Go.Proofs.YtfgaohilpbocbaaGreatDoor
end

section
namespace Go.Proofs.YtfgaohilpbocbaaGreatDoor
open Go.ChangeShapes Go.WideShapes Go.ChangeAt Go.RowKit Go.Joins
set_option linter.unusedVariables false

/-- As sms_slice; what is cut of none is none. -/
theorem sms_slice2 {w : World} {a : Option Addr} {cap : Nat} {l : List Sm} (h : Sms w a cap l) (n c : Nat) (hn : n + c ≤ l.length) (hz : a = none → cap = 0) :
    ∃ a2 cap2, (∀ W, (Instr.slice 28 (.slice a l.length cap) (some (.int .i64 (n : Int))) (some (.int .i64 ((n : Int) + (c : Int)))) none).run Tryz.prog W = .ok (.slice a2 c cap2) W) ∧ Sms w a2 cap2 ((l.drop n).take c) ∧
      (a2 = none → cap2 = 0) := by
  obtain ⟨a2, cap2, h1, h2, h3⟩ := sms_slice h n c hn
  refine ⟨a2, cap2, h1, h2, fun e => ?_⟩
  have hc := h.len
  have hm := h.most
  have h4 := h1 w
  rw [run_slice_lh w 28 a l.length cap undSms .i64 .i64 _ _ (by omega) (by omega) (by omega), elemSm, Tryz.sizeOf52] at h4
  simp only [Result.andThen] at h4
  rw [show ((n : Int) + (c : Int)).toNat = n + c by omega, show ((n : Int)).toNat = n by omega] at h4
  unfold sliced at h4
  injection h4 with h5
  injection h5 with e1 e2 e3
  cases a with
  | none => have := hz rfl; omega
  | some p0 =>
    rw [e] at e1
    split at e1 <;> simp at e1
theorem op_two {o : Oper} {a : Act} {w : World} {K : Act → World → Prop} {Q : Exit → Act → World → Prop} (x y : Operand) (ho : o.op = .buildSlice 60 2 #[(0, x), (1, y)]) (A B : Pw) (hx : a.eval x = .agg (rowArr 51 (pwV A))) (hy : a.eval y = .agg (rowArr 51 (pwV B)))
    (h : K (a.put o.dst (.slice (some ⟨w.heap.size, 0, none⟩) 2 2)) (w.alloc (.cells (rowArr 102 fun j => if j < 51 then pwV A j else pwV B (j - 51)) 100))) : o.wp Tryz.prog a w K Q := by
  have hf := builtS_two (pwV A) (pwV B)
  unfold Program.builtSlice at hf
  cases hie : Tryz.prog.info? 100 with
  | none => simp [hie] at hf
  | some ie =>
    simp only [hie] at hf
    cases hz : ie.zero with
    | none => simp [hz] at hf
    | some z =>
      simp only [hz] at hf
      by_cases hc : 2 * ie.size > 2 ^ 24 ∨ 2 * ie.size = 0
      · simp [hc] at hf
      · rw [if_neg hc] at hf
        refine wp_buildSlice 60 100 2 _ ho _ ie z Tryz.underlying60 hie hz (fun h' => hc (Or.inl h')) (fun h' => hc (Or.inr h')) ?_ h
        simp only [List.map_toArray, List.map_cons, List.map_nil, hx, hy]
        exact hf
theorem two_cells {w' : World} {A B : Pw} {g : Nat} (hg : w'.heap[g]? = some (.cells (rowArr 102 fun j => if j < 51 then pwV A j else pwV B (j - 51)) 100 (0, 0))) :
    ∀ i (h : i < [A, B].length) k, k < 51 → w'.cell? ⟨g, 0 + i * 51 + k, none⟩ = some (pwV [A, B][i] k) := fun i hi k hk => by
  rw [cell_of_block hg]
  simp only [List.length_cons, List.length_nil] at hi
  have h2 : i = 0 ∨ i = 1 := by omega
  have e : 0 + i * 51 + k < 102 := by omega
  simp only [rowArr, List.getElem?_toArray, List.getElem?_map, List.getElem?_range e, Option.map_some]
  rcases h2 with rfl | rfl
  · rw [if_pos (by omega), show 0 + 0 * 51 + k = k by omega]; rfl
  · rw [if_neg (by omega), show 0 + 1 * 51 + k - 51 = k by omega]; rfl
theorem PSt.base {w0 w1 wr : World} {v : Value} {F : List Pw} (h : PSt w1 wr v F) (hb : Below w0.heap.size w0 w1) : PSt w0 wr v F := by
  refine ⟨⟨h.own.1, ?_⟩, hb.trans (h.below.mono hb.size), h.pks⟩
  rcases h.own.2 with e | ⟨g, cap, cur, e, hB, r⟩
  · exact .inl e
  · exact .inr ⟨g, cap, cur, e, Nat.le_trans hb.size hB, r⟩

/-! A set's name, written into one packet of a row. -/

def withSet (n : List Nat) (p : Pk) : Pk := { p with set := n }
def withW (n : List Nat) (f : Pw) : Pw := { f with p := withSet n f.p }
theorem withW_v (n : List Nat) (f : Pw) (j : Nat) : pwV (withW n f) j = if j < 8 then vOf n j else pwV f j := by
  unfold pwV pkV withW withSet
  split
  · rfl
  · rfl
theorem withW_in {n : List Nat} {p : Pk} (h : PkIn p) (h8 : n.length = 8) (hb : IsByte n) : PkIn (withSet n p) := ⟨h8, hb, h.kind, h.slice, h.files, h.slices, h.index, h.file, h.sums, h.id, h.data⟩
def upTo (n : List Nat) (F : List Pw) (k : Nat) : List Pw := (F.take k).map (withW n) ++ F.drop k
theorem upTo_len (n : List Nat) (F : List Pw) (k : Nat) : (upTo n F k).length = F.length := by simp [upTo]; omega
theorem upTo_at {n : List Nat} {F : List Pw} {k : Nat} (h : k < F.length) : (upTo n F k)[k]? = some F[k] := by
  unfold upTo
  rw [List.getElem?_append_right (by simp; omega), List.getElem?_drop]
  have e : k + (k - (List.map (withW n) (F.take k)).length) = k := by simp; omega
  rw [e, List.getElem?_eq_getElem h]
theorem upTo_next {n : List Nat} {F : List Pw} {k : Nat} (h : k < F.length) : (upTo n F k).set k (withW n F[k]) = upTo n F (k + 1) := by
  have e1 : (List.map (withW n) (F.take k)).length = k := by simp; omega
  unfold upTo
  rw [List.set_append_right _ _ (by omega), e1, Nat.sub_self, List.drop_eq_getElem_cons h, List.set_cons_zero, List.take_succ_eq_append_getElem h, List.map_append]
  simp
theorem upTo_all (n : List Nat) (F : List Pw) : (upTo n F F.length).map (·.p) = (F.map (·.p)).map (withSet n) := by
  simp [upTo, withW]
theorem PSt.mark {w0 wr : World} {v : Value} {F : List Pw} (h : PSt w0 wr v F) {i : Nat} {x : Pw} (hx : F[i]? = some x) (nm : List Nat) (h8 : nm.length = 8) (hb : IsByte nm) :
    ∃ g c cur, v = .slice (some ⟨g, 0, none⟩) F.length c ∧ wr.heap[g]? = some (.cells cur 100 (0, 0)) ∧ i * 51 + 8 ≤ cur.size ∧
      ∀ w', w'.heap[g]? = some (.cells (cur.toList.take (i * 51) ++ (rowArr 8 (vOf nm)).toList ++ cur.toList.drop (i * 51 + 8)).toArray 100 (0, 0)) → Fr (fun k => k = g) wr w' → PSt w0 w' v (F.set i (withW nm x)) := by
  obtain ⟨hi, hxe⟩ := List.getElem?_eq_some_iff.1 hx
  rcases h.own.2 with ⟨h1, h2⟩ | ⟨g, cap, cur, e, hB, hh, hle, hmx, hsz, htk⟩
  · omega
  have hroom : i * 51 + 51 ≤ cur.size := by omega
  refine ⟨g, cap, cur, e, hh, by omega, fun w' hg hf => ⟨⟨?_, .inr ⟨g, cap, _, by rw [e, List.length_set], hB, hg, by rw [List.length_set]; exact hle, hmx, ?_, ?_⟩⟩, ?_, fun y hy => ?_⟩⟩
  · rw [encP_len]
  · simp [rowArr]; omega
  · rw [List.length_set]
    apply List.ext_getElem?
    intro j
    by_cases hj : j < F.length * 51
    · rw [List.getElem?_take_of_lt hj]
      have hi2 : j / 51 < F.length := by omega
      have hk2 : j % 51 < 51 := Nat.mod_lt _ (by omega)
      have ej : j / 51 * 51 + j % 51 = j := by omega
      have hcur : cur.toList[j]? = some (pwV F[j / 51] (j % 51)) := by
        have h3 := encP_get hi2 hk2
        rw [ej, ← htk, List.getElem?_take_of_lt hj] at h3
        exact h3
      have hR : (encP (F.set i (withW nm x)))[j]? = some (pwV ((F.set i (withW nm x))[j / 51]'(by rw [List.length_set]; exact hi2)) (j % 51)) := by
        have h3 := encP_get (l := F.set i (withW nm x)) (i := j / 51) (by rw [List.length_set]; exact hi2) hk2
        rw [ej] at h3
        exact h3
      rw [hR, List.getElem_set]
      have hl1 : (cur.toList.take (i * 51)).length = i * 51 := by simp; omega
      have hl2 : (rowArr 8 (vOf nm)).toList.length = 8 := by simp [rowArr]
      by_cases c1 : j < i * 51
      · rw [if_neg (by omega), List.append_assoc, List.getElem?_append_left (by omega), List.getElem?_take_of_lt c1, hcur]
      · by_cases c2 : j < i * 51 + 8
        · have c3 : i = j / 51 := by omega
          rw [if_pos c3, withW_v, if_pos (by omega), List.append_assoc, List.getElem?_append_right (by omega), List.getElem?_append_left (by omega), hl1]
          have c4 : j - i * 51 < 8 := by omega
          simp only [rowArr, List.getElem?_map, List.getElem?_range c4, Option.map_some]
          rw [show j - i * 51 = j % 51 by omega]
        · have hv : cur.toList[j]? = some (if i = j / 51 then pwV (withW nm x) (j % 51) else pwV F[j / 51] (j % 51)) := by
            rw [hcur]
            split
            · rename_i c3
              rw [withW_v, if_neg (by omega), ← hxe]
              simp only [c3]
            · rfl
          rw [List.getElem?_append_right (by rw [List.length_append]; omega), List.length_append, hl1, hl2, List.getElem?_drop, show i * 51 + 8 + (j - (i * 51 + 8)) = j by omega, hv]
          split <;> rfl
    · rw [List.getElem?_eq_none (by rw [List.length_take]; omega), List.getElem?_eq_none (by rw [encP_len, List.length_set]; omega)]
  · exact h.below.trans (hf.below h.below.size fun j hj e => by omega)
  · have hap : ∀ z : Pw, ApartP v z → PkAt wr z.p z.sa z.sc z.da z.dc → PkAt w' z.p z.sa z.sc z.da z.dc := fun z h1 h2 =>
      h2.apart2 hf (fun hn q hq hb => h1.1 hn q hq (by rw [e]; simp [Value.ownBlock, hb])) (fun hn q hq hb => h1.2 hn q hq (by rw [e]; simp [Value.ownBlock, hb]))
    rcases List.mem_or_eq_of_mem_set hy with h1 | rfl
    · exact ⟨hap y (h.pks y h1).2 (h.pks y h1).1, (h.pks y h1).2⟩
    · have hm : x ∈ F := hxe ▸ List.getElem_mem hi
      have h3 := hap x (h.pks x hm).2 (h.pks x hm).1
      exact ⟨⟨withW_in h3.okk h8 hb, h3.sums, h3.data⟩, (h.pks x hm).2⟩
/-- An array stored into a part of a block. -/
theorem wpList_store_in {ops : Array Oper} {rest : List Oper} {o : Oper} {a : Act} {w : World} {Q : Exit → Act → World → Prop} (hgd : o.guard = none) (ty : TypeId) (x y : Operand) (ho : o.op = .store ty x y)
    (g off : Nat) (cells : Array Value) (hx : a.eval x = .pointer (some ⟨g, off, none⟩)) (hy : a.eval y = .agg cells)
    (t : TypeId) (old : Array Value) (hg : w.heap[g]? = some (.cells old t (0, 0))) (hi : (Tryz.prog.info? ty).map (·.size) = some cells.size) (hold : off + cells.size ≤ old.size) (h1 : cells.all (·.oneCell') = true)
    (h : ∀ w', Hid (w'.heap[g]? = some (.cells (old.toList.take off ++ cells.toList ++ old.toList.drop (off + cells.size)).toArray t (0, 0))) → Hid (Fr (fun k => k = g) w w') → wpList Tryz.prog ops Q rest (a.put o.dst undef) w') : wpList Tryz.prog ops Q (o :: rest) a w := by
  have hrun : (storeVar ty ⟨g, off, none⟩ (.agg cells)).run Tryz.prog w = .ok () (w.setRow g (old.toList.take off ++ cells.toList ++ old.toList.drop (off + cells.size)).toArray) := by
    have := run_storeCells_at (P := Tryz.prog) g off t cells.toList 0 old w hg (by simp; omega) (fun v hv => (Array.all_eq_true_iff_forall_mem.1 h1) v (by simpa using hv))
    cases hq : Tryz.prog.info? ty with
    | none => simp [hq] at hi
    | some i =>
      have hs : cells.size = i.size := by simp [hq] at hi; omega
      simp [storeVar, sizeOf, typeInfo, hq, Value.cells, hs, this]
  refine wpList_plain hgd fun K hK => ?_
  unfold Oper.wp execOp
  simp only [ho, hx, hy, Instr.storeAt, Instr.sureAddr, Sem.run_bind, Sem.run_pure, Result.andThen_ok, hrun]
  exact hK _ _ (h _ (setRow_heap _ _ _ _ _ _ hg) (Fr.setRow (X := fun k => k = g) (Fr.refl _ w) (fun _ => rfl) _))
theorem sms_none (w : World) : Sms w none 0 [] := ⟨fun x hx => (by cases hx), Nat.le_refl _, by unfold maxLen; omega, .inl rfl⟩
section
variable {P : Program} {ops : Array Oper} {Q : Exit → Act → World → Prop} {C : World → Prop} {last : Nat}
/-- A struct that is built, as soon as it may come up. -/
theorem growK_build (hs : Region.noSelect ops = true) (i : Nat) {n : Nat} {listed : Array Bool} {a : Act} {o : Oper} (t : TypeId) (parts : Array (Nat × Operand)) (cells : Array Value) (hi : ops[i]? = some o) (ho : o.op = .build t parts)
    (hil : i ≠ last) (hlo : loose ops i = false) (hsink : sinkB ops last listed = true) (hlu : listed.getD last true = false) (hf : Region.free .any ops listed i = true) (hr : (Region.ready .any ops listed).contains i = true)
    (hwt : Region.wanted o (yielded ops a.tmps) = true) (hc : P.built t (parts.map fun (i, x) => (i, a.eval x)).toList = some cells) (w : World) (hw : C w)
    (h : wpAnyT P ops (NoPanic Q) C last n (listed.setIfInBounds i true) (a.put o.dst (.agg cells)) w) : wpAnyT P ops (NoPanic Q) C last (n + 1) listed a w :=
  wpAnyT_take hi hil hlo (sink_of hsink) hlu hs hf hr (fun _ _ _ h => h) (.inl ⟨hwt, fun w _ => by
    unfold execOp
    simp only [ho, Sem.run_bind, run_build w t _ cells hc, Result.andThen_ok]
    rfl⟩) hw h
end
end Go.Proofs.YtfgaohilpbocbaaGreatDoor
end
