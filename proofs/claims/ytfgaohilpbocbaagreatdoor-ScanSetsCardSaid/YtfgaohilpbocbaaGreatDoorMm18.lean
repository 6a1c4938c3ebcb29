/-
  Package packet's Formed.
  Names, plainly: what a reader knows who goes through a name from the left, part by part.
  The document's Path: whether a file of a set may be named so.
-/
import Derived.Test.YtfgaohilpbocbaaGreatDoorMm17
import Derived.Lib.QuietBelow
section
namespace Go.Proofs.YtfgaohilpbocbaaGreatDoor
open Go.ChangeShapes Go.WideShapes Go.ChangeAt Go.RowKit Go.Joins
set_option linter.unusedVariables false

def FormedPost (S : St) (w : World) (e : Ending) (w' : World) : Prop := (∃ r : Bool, e = .returned (.bool r) ∧ (r = true ↔ FormedP S)) ∧ Below w.heap.size w w'
theorem FormedPost.no {S : St} {w w' : World} (h : ¬ FormedP S) (hb : Below w.heap.size w w') : FormedPost S w (.returned (.bool false)) w' := ⟨⟨false, rfl, by simpa using h⟩, hb⟩
/-- A set that is a parameter, in its box. -/
structure SetBox (w : World) (b : Nat) (S : St) (fa : Option Addr) (fc : Nat) (sa : Option Addr) (sc : Nat) : Prop where
  c0 : w.cell? ⟨b, 0, none⟩ = some (.int .i64 S.slice)
  c1 : w.cell? ⟨b, 1, none⟩ = some (.slice fa S.files.length fc)
  c2 : w.cell? ⟨b, 2, none⟩ = some (.slice sa S.slices.length sc)
theorem SetBox.new (w : World) (S : St) (fa : Option Addr) (fc : Nat) (sa : Option Addr) (sc : Nat) : SetBox (w.alloc (.cells (rowArr 3 (setV S fa fc sa sc)) 30)) w.heap.size S fa fc sa sc :=
  ⟨by rw [World.cell?_alloc_new]; rfl, by rw [World.cell?_alloc_new]; rfl, by rw [World.cell?_alloc_new]; rfl⟩
theorem SetBox.below {w w' : World} {b : Nat} {S : St} {fa : Option Addr} {fc : Nat} {sa : Option Addr} {sc : Nat} (h : SetBox w b S fa fc sa sc) (k : Below w.heap.size w w') : SetBox w' b S fa fc sa sc := by
  have hb : b < w.heap.size := World.block_lt_of_cell? w _ h.c0
  exact ⟨(k.cell (p := ⟨b, 0, none⟩) hb).trans h.c0, (k.cell (p := ⟨b, 1, none⟩) hb).trans h.c1, (k.cell (p := ⟨b, 2, none⟩) hb).trans h.c2⟩
set_option maxRecDepth 1000000 in
set_option maxHeartbeats 16000000 in
theorem formed_any (S : St) (fa : Option Addr) (fc : Nat) (sa : Option Addr) (sc : Nat) (w : World) (hs : SetAt w S fa fc sa sc) (hm : Mx w) :
    Calls Tryz.prog 105 #[.agg (rowArr 3 (setV S fa fc sa sc))] w (FormedPost S w) := by
  have mixed : Tryz.prog.follows .mixedOrders = true := by kernel_rfl
  have hB0 : Below w.heap.size w (w.alloc (.cells (rowArr 3 (setV S fa fc sa sc)) 30)) := (Below.refl _ _).alloc (Nat.le_refl _) _
  have HX := Lib.hid (SetBox.new w S fa fc sa sc)
  have HS := Lib.hid (hs.below hB0)
  have HM := Lib.hid (hm.below hB0)
  have HB := Lib.hid hB0
  have hfl := hs.files.lt
  have hsl := hs.slices.lt
  obtain ⟨sr1, sr2⟩ := hs.slice
  obtain ⟨PQ, hPQ⟩ : ∃ PQ, PQ = FormedPost S w := ⟨_, rfl⟩
  have HPQ := Lib.hid hPQ
  rw [← hPQ]
  obtain ⟨arr, harr⟩ : ∃ arr, arr = rowArr 3 (setV S fa fc sa sc) := ⟨_, rfl⟩
  rw [← harr] at HX HS HM HB ⊢
  clear harr hB0 hs hm hPQ
  go_enter Tryz.func105, Tryz.ntmps105
  go_upto_region 1 with fail
  obtain ⟨b, hb⟩ : ∃ b, b = w.heap.size := ⟨_, rfl⟩
  rw [← hb] at HX ⊢
  generalize w.alloc (.cells arr 30) = w1 at *
  clear hb
  have c0 := HX.out.c0
  have c1 := HX.out.c1
  have c2 := HX.out.c2
  have HNO : Hid (∀ w', ¬ FormedP S → Below w.heap.size w w' → PQ (.returned (.bool false)) w') := by
    show ∀ _, _
    rw [HPQ.out]; exact fun w' h hb => FormedPost.no h hb
  by_cases q1 : S.slice < 1
  · have d : decide (S.slice < 1) = true := decide_eq_true q1
    have HR := Lib.hid (HNO.out w1 (fun h => by have := h.s1; omega) HB.out)
    go_wp2_with fail
    exact HR.out
  have d1 : decide (S.slice < 1) = false := decide_eq_false q1
  by_cases q2 : 256 < S.slice
  · have d : decide (256 < S.slice) = true := decide_eq_true q2
    have HR := Lib.hid (HNO.out w1 (fun h => by have := h.s2; omega) HB.out)
    go_wp2_with fail
    exact HR.out
  have d2 : decide (256 < S.slice) = false := decide_eq_false q2
  by_cases q3 : 64 < S.slices.length
  · have d : decide ((64 : Int) < (S.slices.length : Int)) = true := decide_eq_true (by omega)
    have HR := Lib.hid (HNO.out w1 (fun h => by have := h.m1; omega) HB.out)
    go_wp2_with fail
    exact HR.out
  have d3 : decide ((64 : Int) < (S.slices.length : Int)) = false := decide_eq_false (by omega)
  by_cases q4 : S.files.length < 1
  · have d : decide ((S.files.length : Int) < 1) = true := decide_eq_true (by omega)
    have HR := Lib.hid (HNO.out w1 (fun h => by have := h.f1; omega) HB.out)
    go_wp2_with fail
    exact HR.out
  have d4 : decide ((S.files.length : Int) < 1) = false := decide_eq_false (by omega)
  by_cases q5 : 8 < S.files.length
  · have d : decide ((8 : Int) < (S.files.length : Int)) = true := decide_eq_true (by omega)
    have HR := Lib.hid (HNO.out w1 (fun h => by have := h.f2; omega) HB.out)
    go_wp2_with fail
    exact HR.out
  have d5 : decide ((8 : Int) < (S.files.length : Int)) = false := decide_eq_false (by omega)
  have hL8 : S.files.length ≤ 8 := by omega
  have hM64 : S.slices.length ≤ 64 := by omega
  have s1 : 1 ≤ S.slice := by omega
  have s2 : S.slice ≤ 256 := by omega
  have HYES : Hid (Good S S.files.length S.slices.length → FormedP S) := fun g => ⟨s1, s2, hM64, by omega, hL8, g⟩
  go_upto_region 5 with fail
  clear d1 d2 d3 d4 d5 q1 q2 q3 q4 q5
  go_wp2_with fail
  have HG0 : Hid (Good S 0 0) := .zero
  have HW0 : Hid (Below w1.heap.size w1 w1) := Below.refl _ _
  go_loopw [3, 34] (fun t i wr => ∃ n k : Nat, k ≤ S.files.length ∧ t = .int .i64 n ∧ i = .int .i64 k ∧ Hid (Good S k n) ∧ Hid (Below w1.heap.size w1 wr)) (fun _ i _ => S.files.length - (intOf i).toNat)
  case atStart => exact ⟨0, 0, by omega, rfl, rfl, HG0, HW0⟩
  case round =>
    obtain ⟨n, k, hk, rfl, rfl, HG, HW⟩ := hrel
    clear HG0 HW0
    have hn64 : n ≤ 64 := by have := HG.out.room; omega
    by_cases hlt : k < S.files.length
    · have HNR : Hid (∀ w', ¬ FileOk S n k → Below w1.heap.size w1 w' → PQ (.returned (.bool false)) w') := fun w' h hb => HNO.out w' (fun hf => h (not_formed HG.out hlt hf)) (HB.out.trans (hb.mono HB.out.size))
      obtain ⟨fb, off, rfl, hbl, hx⟩ := fils_one (HS.out.files.below HW.out) hlt
      have hok := HS.out.files.rng _ (List.getElem_mem hlt)
      have hgd : S.files.getD k zFil = S.files[k] := by simp [List.getD, hlt]
      have hfr := fils_front HS.out.files k (by omega)
      obtain ⟨f, hf⟩ : ∃ f, f = S.files[k] := ⟨_, rfl⟩
      rw [← hf] at hx hok hgd
      have HGD := Lib.hid hgd
      have HFL := Lib.hid hfr.2
      have HSF := Lib.hid hfr.1
      have HOK := Lib.hid hok
      have HXC := Lib.hid hx
      obtain ⟨SX, hSX⟩ : ∃ SX, SX = rowArr 35 (filV f) := ⟨_, rfl⟩
      have VX : Hid (rowArr 35 (filV f) = SX) := hSX.symm
      have hSXs : SX.size = 35 := by rw [hSX, rowArr_size]
      have hSX1 : SX.all (·.oneCell') = true := by rw [hSX]; exact oneCell_fil f
      have HSXs := Lib.hid hSXs
      have HSX1 := Lib.hid hSX1
      have HALL : Hid (∀ c : Array Value, (wr.alloc (.cells c 98)).heap[wr.heap.size]? = some (.cells c 98 (0, 0))) := fun c => heap_alloc_last wr _
      have HALB : Hid (∀ c : Array Value, Below wr.heap.size wr (wr.alloc (.cells c 98))) := fun c => (Below.refl _ _).alloc (Nat.le_refl _) _
      clear hx hok hf hSX hSXs hSX1 hgd hfr
      go_upto_region 9 with (first
        | (refine wpList_load_v (by rfl) 98 _ rfl fb (off + k * 35) 35 _ SX VX.out rfl _ HXC.out und_file rfl (by kernel_rfl) ?_)
        | (refine wpList_store_arr rfl 98 _ _ rfl wr.heap.size SX rfl rfl 98 _ (HALL.out _) (by rw [HSXs.out]; kernel_rfl) (by rw [HSXs.out]; rfl) HSX1.out ?_; intro w7 HC7 hf7; have HB67 : Hid (Below wr.heap.size wr w7) := (HALB.out _).trans (hf7.out.below (HALB.out _).size (fun k hk e => by omega)); clear hf7 HALL HALB))
      have HW7 := Lib.hid (HW.out.trans (HB67.out.mono HW.out.size))
      obtain ⟨g, hg⟩ : ∃ g, g = wr.heap.size := ⟨_, rfl⟩
      rw [← hg] at HC7
      rw [← hg]
      rw [← VX.out] at HC7
      have HX7 : Hid (Row w7 g 98 35 35 (filV f)) := Row.of_whole HC7.out
      have hlen : (S.files.take k).length = k := by rw [List.length_take]; omega
      clear HB67 HC7 HXC VX HSXs HSX1 hg HW
      obtain ⟨r0, r1, r34⟩ := fil_row HX7.out
      have k0 := cell_regrown r0
      have k1 := cell_regrown r1
      have k34 := cell_regrown r34
      have kb1 := cell_regrown (HX.out.below HW7.out).c1
      have HBG : Hid (∀ d os, Below w1.heap.size w1 (Go.Sort.grow (redrawn w7 d) os)) := fun d os => HW7.out.trans ((below_regrown w7 d os).mono HW7.out.size)
      have HNRk := Lib.hid HNR.out
      have HNR2 : Hid (¬ FileOk S n k → ∀ d os, PQ (.returned (.bool false)) (Go.Sort.grow (redrawn w7 d) os)) := fun h d os => HNR.out _ h (HBG.out d os)
      clear HNR
      by_cases p1 : f.size < 0
      · have e1 : decide (f.size < 0) = true := decide_eq_true p1
        have HR := Lib.hid (HNR2.out (fun h => by have := h.size; rw [HGD.out] at this; omega))
        clear HNR2
        refine wp_region_quiet_below mixed (by kernel_rfl) ?_
        repeat (first | go_big_quiet_step (fail) | quiet_step (fail))
        refine wpQuiet_nil ?_
        intro _ hw'
        obtain ⟨⟨dq, osq⟩, hw''⟩ := hw'
        subst hw''
        go_wp2_with fail
        exact HR.out _ _
      have e1 : decide (f.size < 0) = false := decide_eq_false p1
      by_cases p2 : f.first = (n : Int)
      case' neg =>
        have e2 : (f.first == (n : Int)) = false := beq_false_of_ne p2
        have HR := Lib.hid (HNR2.out (fun h => by have := h.first; rw [HGD.out] at this; exact p2 this))
        clear HNR2
        refine wp_region_quiet_below mixed (by kernel_rfl) ?_
        repeat (first | go_big_quiet_step (fail) | quiet_step (fail))
        refine wpQuiet_nil ?_
        intro _ hw'
        obtain ⟨⟨dq, osq⟩, hw''⟩ := hw'
        subst hw''
        go_wp2_with fail
        exact HR.out _ _
      have e2 : (f.first == (n : Int)) = true := beq_iff_eq.2 p2
      have hnz : (strOf f.name).size ≤ 9223372036854775807 := by rw [strOf_size]; exact HOK.out.short
      have CN := fun d os => Calls.regrown_of (name_any (strOf f.name) hnz (Go.Sort.grow (redrawn w7 d) os) (HM.out.below (HBG.out d os)))
      obtain ⟨q, hq⟩ : ∃ q, q = nameB (strOf f.name).data.toList := ⟨_, rfl⟩
      rw [← hq] at CN
      cases q
      case' false =>
        have HR := Lib.hid (HNR2.out (fun h => by have := h.name; rw [HGD.out, nameL_eq, ← hq] at this; cases this))
        clear HNR2 hq
        refine wp_region_quiet_below mixed (by kernel_rfl) ?_
        repeat (first | go_big_quiet_step (exact CN _ _) | quiet_step (exact CN _ _))
        refine wpQuiet_nil ?_
        intro _ hw'
        obtain ⟨⟨dq, osq⟩, hw''⟩ := hw'
        subst hw''
        go_wp2_with fail
        exact HR.out _ _
      have HNM : Hid (nameL f.name = true) := by show _ = _; rw [nameL_eq, ← hq]
      have hHas := fun d os => has_any14 (some ⟨fb, off, none⟩) fc (S.files.take k) f.name HOK.out.byte (Go.Sort.grow (redrawn w7 d) os) (HFL.out.below (HBG.out d os))
      rw [hlen] at hHas
      have hsf := HSF.out
      by_cases p3 : ∃ j, j < k ∧ ((S.files.take k).getD j zFil).name = f.name
      case' pos =>
        have CH := fun d os => Calls.regrown_of (v := .bool true) ((hHas d os).mono fun e w' ⟨⟨r, he, hr⟩, hb⟩ => ⟨by rw [he, hr.2 p3], hb⟩)
        have HR := Lib.hid (HNR2.out (fun h => by
          obtain ⟨j, hj, hje⟩ := p3
          refine h.once j hj ?_
          rw [HGD.out, ← hje]
          simp [List.getD, hj]))
        clear HNR2 hq hHas p3
        refine wp_region_quiet_below mixed (by kernel_rfl) ?_
        repeat (first | go_big_quiet_step (first | exact CN _ _ | exact CH _ _) | quiet_step (first | exact CN _ _ | exact CH _ _))
        refine wpQuiet_nil ?_
        intro _ hw'
        obtain ⟨⟨dq, osq⟩, hw''⟩ := hw'
        subst hw''
        go_wp2_with fail
        exact HR.out _ _
      have CH := fun d os => Calls.regrown_of (v := .bool false) ((hHas d os).mono fun e w' ⟨⟨r, he, hr⟩, hb⟩ => ⟨by rw [he, Bool.eq_false_iff.2 fun h => p3 (hr.1 h)], hb⟩)
      have HON : Hid (∀ j, j < k → (S.files.getD j zFil).name ≠ f.name) := fun j hj he => p3 ⟨j, hj, by rw [← he]; simp [List.getD, hj]⟩
      clear hq hHas p3
      refine wp_region_quiet_below mixed (by kernel_rfl) ?_
      repeat (first | go_big_quiet_step (first | exact CN _ _ | exact CH _ _) | quiet_step (first | exact CN _ _ | exact CH _ _))
      refine wpQuiet_nil ?_
      intro _ hw'
      obtain ⟨⟨dq, osq⟩, hw''⟩ := hw'
      subst hw''
      have HW8 := Lib.hid (HBG.out dq osq)
      have r8 := k1 dq osq
      clear CN CH k0 k1 k34 kb1 HBG HNR2 r0 r1 r34 HX7 hsf HSF HFL
      generalize Go.Sort.grow (redrawn w7 dq) osq = w8 at *
      have f0 : 0 ≤ f.size := by omega
      have HCN := Lib.hid (fun w => rcount_any f.size S.slice w HOK.out.size HS.out.slice)
      obtain ⟨c, hc⟩ : ∃ c, c = cntN f.size S.slice := ⟨_, rfl⟩
      rw [← hc] at HCN
      have HCC := Lib.hid hc
      have hc63 : c ≤ 9223372036854775807 := by rw [hc]; have := cntN_le f.size S.slice; have := HOK.out.size.2; omega
      clear hc
      have g0 : w8.cell? ⟨b, 0, none⟩ = some (.int .i64 S.slice) := (HX.out.below HW8.out).c0
      go_upto_region 12 with (go_at_call 106; refine (HCN.out _).mono ?_; rintro e w' ⟨rfl, hw⟩; obtain rfl := hw.symm)
      clear HCN
      have k1 := cell_regrown r8
      have kb0 := cell_regrown (HX.out.below HW8.out).c0
      have kb2 := cell_regrown (HX.out.below HW8.out).c2
      have HBG : Hid (∀ d os, Below w1.heap.size w1 (Go.Sort.grow (redrawn w8 d) os)) := fun d os => HW8.out.trans ((below_regrown w8 d os).mono HW8.out.size)
      have hnM := HG.out.room
      obtain ⟨r, hr⟩ : ∃ r : Nat, (S.slices.length : Int) - (n : Int) = (r : Int) := ⟨S.slices.length - n, by omega⟩
      have hrl : n + r = S.slices.length := by omega
      have HRL := Lib.hid hrl
      clear hrl
      by_cases p4 : r < c
      · have d1 : decide (r < c) = true := decide_eq_true p4
        have d2 : decide ((r : Int) < (c : Int)) = true := decide_eq_true (by omega)
        have HR : Hid (∀ d os, PQ (.returned (.bool false)) (Go.Sort.grow (redrawn w8 d) os)) := fun d os => HNRk.out _ (fun h => by have h1 := h.room; have h2 := HRL.out; rw [HGD.out, ← HCC.out] at h1; omega) (HBG.out d os)
        refine wp_region_quiet_below mixed (by kernel_rfl) ?_
        repeat (first | go_big_quiet_step (fail) | quiet_step (fail))
        refine wpQuiet_nil ?_
        intro _ hw'
        obtain ⟨⟨dq, osq⟩, hw''⟩ := hw'
        subst hw''
        go_wp2_with fail
        exact HR.out _ _
      have d1 : decide (r < c) = false := decide_eq_false p4
      have d2 : decide ((r : Int) < (c : Int)) = false := decide_eq_false (by omega)
      have hnc : n + c ≤ S.slices.length := by have := HRL.out; omega
      have hc64 : c ≤ 64 := by omega
      obtain ⟨a2, cap2, hsl2, hsm2, _⟩ := sms_slice HS.out.slices n c hnc
      have hln : ((S.slices.drop n).take c).length = c := by rw [List.length_take, List.length_drop]; omega
      have hget : ∀ i, i < c → ((S.slices.drop n).take c).getD i zSm = S.slices.getD (n + i) zSm := fun i hi => by
        simp [List.getD, hi]
      have hCut := fun d os => cut_any a2 cap2 ((S.slices.drop n).take c) f.size S.slice (Go.Sort.grow (redrawn w8 d) os) (hsm2.below (HBG.out d os)) (by omega) ⟨f0, HOK.out.size.2⟩ s1 s2
      rw [hln] at hCut
      by_cases p5 : ∀ i, i < c → (((S.slices.drop n).take c).getD i zSm).n = wantI S.slice f.size i
      case' neg =>
        have CC := fun d os => Calls.regrown_of (v := .bool false) ((hCut d os).mono fun e w' ⟨⟨r, he, hr⟩, hb⟩ => ⟨by rw [he, Bool.eq_false_iff.2 fun h => p5 (hr.1 h)], hb⟩)
        have HR : Hid (∀ d os, PQ (.returned (.bool false)) (Go.Sort.grow (redrawn w8 d) os)) := fun d os => HNRk.out _ (fun h => p5 fun i hi => by
          have h1 := h.cut i (by rw [HGD.out, ← HCC.out]; exact hi)
          rw [HGD.out] at h1
          rw [hget i hi]; exact h1) (HBG.out d os)
        clear hCut p5 hget hsm2 hln
        refine wp_region_quiet_below mixed (by kernel_rfl) ?_
        repeat (first | go_big_quiet_step (exact CC _ _) | quiet_step (exact CC _ _))
        refine wpQuiet_nil ?_
        intro _ hw'
        obtain ⟨⟨dq, osq⟩, hw''⟩ := hw'
        subst hw''
        go_wp2_with fail
        exact HR.out _ _
      have CC := fun d os => Calls.regrown_of (v := .bool true) ((hCut d os).mono fun e w' ⟨⟨r, he, hr⟩, hb⟩ => ⟨by rw [he, hr.2 p5], hb⟩)
      have HNX : Hid (Good S (k + 1) (n + c)) := by
        have := Good.next HG.out hlt ⟨by rw [HGD.out]; exact f0, by rw [HGD.out]; exact p2, by rw [HGD.out]; exact HNM.out, fun j hj => by rw [HGD.out]; exact HON.out j hj, by rw [HGD.out, ← HCC.out]; exact hnc, fun i hi => by
          rw [HGD.out] at hi ⊢
          rw [← HCC.out] at hi
          rw [← hget i hi]; exact p5 i hi⟩
        rw [HGD.out, ← HCC.out] at this
        exact this
      clear hCut p5 hget hsm2 hln HNRk
      refine wp_region_quiet_below mixed (by kernel_rfl) ?_
      repeat (first | go_big_quiet_step (exact CC _ _) | quiet_step (exact CC _ _))
      refine wpQuiet_nil ?_
      intro _ hw'
      obtain ⟨⟨dq, osq⟩, hw''⟩ := hw'
      subst hw''
      have HW9 := Lib.hid (HBG.out dq osq)
      clear CC k1 kb0 kb2 HBG
      generalize Go.Sort.grow (redrawn w8 dq) osq = w9 at *
      go_wp2_with fail
      go_roundw
      case rel => exact ⟨n + c, k + 1, by omega, by go_num, by go_num, HNX, HW9⟩
      case measure => simp [intOf]; omega
    · obtain rfl : k = S.files.length := by omega
      have HR : Hid (∀ r : Bool, (r = true ↔ n = S.slices.length) → PQ (.returned (.bool r)) wr) := by
        show ∀ _, _
        rw [HPQ.out]
        intro r hr
        refine ⟨⟨r, rfl, fun h => HYES.out (by rw [← hr.1 h]; exact HG.out), fun h => hr.2 (HG.out.one h.good)⟩, HB.out.trans (HW.out.mono HB.out.size)⟩
      have e2 : wr.cell? ⟨b, 2, none⟩ = some (.slice sa S.slices.length sc) := (HX.out.below HW.out).c2
      clear HG HYES
      go_wp2_with fail
      exact HR.out _ (by rw [beq_iff_eq]; omega)
end Go.Proofs.YtfgaohilpbocbaaGreatDoor
end

section
namespace Go.Proofs.YtfgaohilpbocbaaGreatDoor
set_option linter.unusedVariables false

/-- The part begins at F, the reader is at k; D: the parts ahead. -/
structure PathSt (l : List UInt8) (F k : Nat) (D : List (List UInt8)) : Prop where
  le : F ≤ k
  top : k ≤ l.length + 1
  none : ∀ c ∈ (l.take k).drop F, c ≠ 47
  let_ : ∀ c ∈ l.take k, letB c.toNat = true ∨ c.toNat = 47
  good : ∀ p ∈ D, partB p = true
  zero : F = 0 ↔ D = []
  head1 : D.head? ≠ some [111, 108, 100]
  head2 : D.head? ≠ some [116, 109, 112]
  rest : k ≤ l.length → partsN l = D ++ partsN (l.drop F)
  last : k = l.length + 1 → partsN l = D
theorem PathSt.start (l : List UInt8) : PathSt l 0 0 [] := ⟨by omega, by omega, by simp, by simp, by simp, by simp, by simp, by simp, fun _ => by simp, fun h => by omega⟩
theorem take_get {l : List UInt8} {k : Nat} {x : UInt8} (h : l[k]? = some x) : l.take (k + 1) = l.take k ++ [x] ∧ k < l.length ∧ l.drop k = x :: l.drop (k + 1) := by
  obtain ⟨hk, e⟩ := List.getElem?_eq_some_iff.1 h
  refine ⟨by rw [List.take_succ_eq_append_getElem hk, e], hk, by rw [← e, List.drop_eq_getElem_cons hk]⟩
theorem drop_piece {l : List UInt8} {F k : Nat} (h1 : F ≤ k) (h2 : k ≤ l.length) : l.drop F = (l.take k).drop F ++ l.drop k := by
  conv => lhs; rw [← List.take_append_drop k l]
  rw [List.drop_append_of_le_length (by rw [List.length_take]; omega)]
/-- A byte that isn't a stroke. -/
theorem PathSt.char {l : List UInt8} {F k : Nat} {D : List (List UInt8)} (h : PathSt l F k D) {x : UInt8} (hx : l[k]? = some x) (h47 : x.toNat ≠ 47) (hl : letB x.toNat = true) : PathSt l F (k + 1) D := by
  obtain ⟨e1, hk, e2⟩ := take_get hx
  refine ⟨by have := h.le; omega, by omega, fun c hc => ?_, fun c hc => ?_, h.good, h.zero, h.head1, h.head2, fun _ => h.rest (by omega), fun he => by omega⟩
  · rw [e1, List.drop_append_of_le_length (by rw [List.length_take]; have := h.le; omega)] at hc
    rcases List.mem_append.1 hc with hc | hc
    · exact h.none c hc
    · obtain rfl : c = x := by simpa using hc
      intro e; subst e; exact h47 rfl
  · rw [e1] at hc
    rcases List.mem_append.1 hc with hc | hc
    · exact h.let_ c hc
    · obtain rfl : c = x := by simpa using hc
      exact .inl hl
/-- The part that ends at k. -/
theorem PathSt.piece {l : List UInt8} {F k : Nat} {D : List (List UInt8)} (h : PathSt l F k D) (hk : k ≤ l.length) (he : ∀ x, l[k]? = some x → x.toNat = 47) :
    partsN (l.drop F) = (l.take k).drop F :: (if k < l.length then partsN (l.drop (k + 1)) else []) := by
  rw [drop_piece h.le hk]
  by_cases hlt : k < l.length
  · rw [if_pos hlt]
    obtain ⟨e1, _, e2⟩ := take_get (List.getElem?_eq_getElem hlt)
    have := he _ (List.getElem?_eq_getElem hlt)
    have e3 : l[k] = 47 := UInt8.toNat_inj.1 this
    rw [e2, e3, partsN_cut _ h.none]
  · rw [if_neg hlt, List.drop_eq_nil_of_le (by omega : l.length ≤ k), List.append_nil, partsN_none h.none]
theorem PathSt.mem {l : List UInt8} {F k : Nat} {D : List (List UInt8)} (h : PathSt l F k D) (hk : k ≤ l.length) (he : ∀ x, l[k]? = some x → x.toNat = 47) :
    (l.take k).drop F ∈ partsN l ∧ (F = 0 → (partsN l).head? = some ((l.take k).drop F)) := by
  rw [h.rest hk, h.piece hk he]
  refine ⟨by simp, fun h0 => ?_⟩
  rw [h.zero.1 h0]; rfl
theorem PathSt.part {l : List UInt8} {F k : Nat} {D : List (List UInt8)} (h : PathSt l F k D) (hk : k ≤ l.length) (he : ∀ x, l[k]? = some x → x.toNat = 47)
    (hg : partB ((l.take k).drop F) = true) (h1 : F = 0 → (l.take k).drop F ≠ [111, 108, 100]) (h2 : F = 0 → (l.take k).drop F ≠ [116, 109, 112]) : PathSt l (k + 1) (k + 1) (D ++ [(l.take k).drop F]) := by
  have hp := h.piece hk he
  have hr := h.rest hk
  refine ⟨by omega, by omega, fun c hc => ?_, fun c hc => ?_, fun p hp => ?_, ⟨fun e => by omega, fun e => by simp at e⟩, ?_, ?_, fun hk2 => ?_, fun e => ?_⟩
  · rw [List.drop_eq_nil_of_le (by rw [List.length_take]; omega)] at hc; simp at hc
  · by_cases hlt : k < l.length
    · obtain ⟨e1, _, e2⟩ := take_get (List.getElem?_eq_getElem hlt)
      rw [e1] at hc
      rcases List.mem_append.1 hc with hc | hc
      · exact h.let_ c hc
      · obtain rfl : c = l[k] := by simpa using hc
        exact .inr (he _ (List.getElem?_eq_getElem hlt))
    · rw [List.take_of_length_le (by omega)] at hc
      exact h.let_ c (by rw [List.take_of_length_le (by omega)]; exact hc)
  · rcases List.mem_append.1 hp with hp | hp
    · exact h.good p hp
    · obtain rfl : p = (l.take k).drop F := by simpa using hp
      exact hg
  · cases hD : D with
    | nil => intro e; exact h1 (h.zero.2 hD) (by simpa using e)
    | cons d r => have := h.head1; rw [hD] at this; exact this
  · cases hD : D with
    | nil => intro e; exact h2 (h.zero.2 hD) (by simpa using e)
    | cons d r => have := h.head2; rw [hD] at this; exact this
  · rw [hr, hp, if_pos (by omega)]; simp
  · rw [hr, hp, if_neg (by omega)]
theorem PathSt.done {l : List UInt8} {F : Nat} {D : List (List UInt8)} (h : PathSt l F (l.length + 1) D) (h40 : l.length ≤ 40) (hs : Lib.hasSuffix l [46, 103, 121, 115] = false) : nameB l = true := by
  rw [nameB_iff, h.last rfl]
  refine ⟨h40, hs, fun c hc => h.let_ c (by rw [List.take_of_length_le (by omega)]; exact hc), h.good, h.head1, h.head2⟩
end Go.Proofs.YtfgaohilpbocbaaGreatDoor
end

section
namespace Go.Proofs.YtfgaohilpbocbaaGreatDoor
open Go.ChangeShapes Go.WideShapes Go.ChangeAt Go.RowKit Go.Joins
set_option linter.unusedVariables false

theorem str_slice (s : ByteArray) (a b : Nat) (h1 : a ≤ b) (h2 : b ≤ s.size) (W : World) : (Instr.slice 9 (.string s) (some (.int .i64 (a : Int))) (some (.int .i64 (b : Int))) none).run Tryz.prog W = .ok (.string (s.extract a b)) W := by
  rw [run_slice_string (h := Tryz.underlying9)]
  · simp
  · omega
  · omega
  · omega
theorem str_slice_from (s : ByteArray) (a : Nat) (h2 : a ≤ s.size) (W : World) : (Instr.slice 9 (.string s) (some (.int .i64 (a : Int))) none none).run Tryz.prog W = .ok (.string (s.extract a s.size)) W := by
  rw [run_slice_string_from_if (h := Tryz.underlying9), if_pos ⟨by omega, by omega⟩]
  simp
theorem str_piece (s : ByteArray) (a b : Nat) : (s.extract a b).toList = (s.data.toList.take b).drop a := by
  rw [ByteArray.toList_eq, Lib.extract_data, List.drop_take]
set_option maxRecDepth 100000 in
set_option maxHeartbeats 4000000 in
theorem refPath_any (s : ByteArray) (hs : s.size ≤ 9223372036854775807) (w : World) :
    Calls Tryz.prog 48 #[.string s] w fun e w' => e = .returned (.bool (nameB s.data.toList)) ∧ Below w.heap.size w w' := by
  have hl : s.data.toList.length = s.size := Array.length_toList
  obtain ⟨l, hL⟩ : ∃ l, l = s.data.toList := ⟨_, rfl⟩
  obtain ⟨r, hr⟩ : ∃ r, r = nameB l := ⟨_, rfl⟩
  rw [← hL] at hl
  rw [← hL, ← hr]
  have HB0 : Hid (Below w.heap.size w w) := Below.refl _ _
  have HI : Hid (r = true → l.length ≤ 40 ∧ Lib.hasSuffix l [46, 103, 121, 115] = false ∧ (∀ c ∈ l, letB c.toNat = true ∨ c.toNat = 47) ∧ (∀ p ∈ partsN l, partB p = true) ∧ (partsN l).head? ≠ some [111, 108, 100] ∧ (partsN l).head? ≠ some [116, 109, 112]) := by
    show _ → _
    rw [hr]; exact (nameB_iff l).1
  by_cases h1 : 40 < s.size
  · have hR : Hid (r = false) := by
      show _ = _
      cases e : r
      · rfl
      · have := (HI.out e).1; omega
    clear hr
    have d1 : decide ((40 : Int) < (s.size : Int)) = true := decide_eq_true (by omega)
    go_enter Tryz.func48, Tryz.ntmps48
    go_wp2_with fail
    go_ret
    exact ⟨ret_bool hR.out.symm, HB0.out⟩
  have d1 : decide ((40 : Int) < (s.size : Int)) = false := decide_eq_false (by omega)
  have HD : Hid (∀ F D, PathSt l F (l.length + 1) D → Lib.hasSuffix l [46, 103, 121, 115] = false → r = true) := fun F D h hs => by rw [hr]; exact h.done (by omega) hs
  have HX := Lib.hasSuffix_raw s ⟨#[46, 103, 121, 115]⟩
  rw [← hL, ByteArray.toList_eq ⟨#[46, 103, 121, 115]⟩] at HX
  obtain ⟨q, hq⟩ : ∃ q, q = Lib.hasSuffix l [46, 103, 121, 115] := ⟨_, rfl⟩
  have HX : (decide (4 ≤ s.size) && ((s.extract (s.size - 4) s.size).toList == [46, 103, 121, 115])) = q := by rw [hq]; exact HX
  rw [← hq] at HD HI
  clear hq hr
  have HW : (s.size < 4 ∧ q = false) ∨ ∃ m : Nat, s.size = m + 4 ∧ ((s.extract m s.size).toList == [46, 103, 121, 115]) = q := by
    by_cases h4 : 4 ≤ s.size
    · refine .inr ⟨s.size - 4, by omega, ?_⟩
      rw [decide_eq_true h4, Bool.true_and] at HX
      exact HX
    · refine .inl ⟨by omega, ?_⟩
      rw [decide_eq_false h4, Bool.false_and] at HX
      exact HX.symm
  clear HX
  rcases HW with ⟨h4, rfl⟩ | ⟨m, hm, hx⟩
  case' inr =>
    have d2 : decide ((4 : Int) ≤ (s.size : Int)) = true := decide_eq_true (by omega)
    have hsl := str_slice_from s m (by omega)
    have hm1 : (s.size : Int) - 4 = (m : Int) := by omega
    have h44 : 4 ≤ s.size := by omega
    clear hm
    cases q
    case' true =>
      have hR : Hid (r = false) := by
        show _ = _
        cases e : r
        · rfl
        · have := (HI.out e).2.1; cases this
      clear HI HD
      go_enter Tryz.func48, Tryz.ntmps48
      go_wp2_with fail
      go_ret
      exact ⟨ret_bool hR.out.symm, HB0.out⟩
  case' inl =>
    have d2 : decide ((4 : Int) ≤ (s.size : Int)) = false := decide_eq_false (by omega)
  all_goals
    go_enter Tryz.func48, Tryz.ntmps48
    go_wp2_with fail
    have HL : Hid (∀ k, k < s.size → ∃ c : Nat, c < 256 ∧ (∀ W, (Instr.index 9 (.string s) (.int .i64 (k : Int))).run Tryz.prog W = .ok (.int .u8 (c : Int)) W) ∧ ∃ x : UInt8, x.toNat = c ∧ l[k]? = some x) := by
      show ∀ _, _
      rw [hL]; exact str_index s
    have HP : Hid (l.length = s.size ∧ l = s.data.toList) := ⟨hl, hL⟩
    have HS0 : Hid (∃ D, PathSt l 0 0 D) := ⟨[], .start l⟩
    clear hl hL hs
    go_loopw [3, 4] (fun f i wr => ∃ F k : Nat, F ≤ k ∧ k ≤ s.size + 1 ∧ f = .int .i64 F ∧ i = .int .i64 k ∧ Hid (∃ D, PathSt l F k D) ∧ Hid (Below w.heap.size w wr)) (fun _ i _ => s.size + 1 - (intOf i).toNat)
    case atStart => exact ⟨0, 0, by omega, by omega, rfl, rfl, HS0, HB0⟩
    case round =>
      obtain ⟨F, k, hFk, hk, rfl, rfl, HS, HB⟩ := hrel
      clear HS0 HB0
      by_cases hend : k = s.size + 1
      · have HF2 : Hid (r = true) := by
          obtain ⟨D, h⟩ := HS.out
          have e1 := HP.out.1
          exact HD.out F D (by rw [e1, ← hend]; exact h) (by first | rfl | trivial)
        have d3 : ¬ k ≤ s.size := by omega
        have d3b : decide (k ≤ s.size) = false := decide_eq_false (by omega)
        clear HD HI HS HL HP hend
        go_wp2_with fail
        go_ret
        exact ⟨ret_bool HF2.out.symm, HB.out⟩
      have d3b : decide (k ≤ s.size) = true := decide_eq_true (by omega)
      have hks : k ≤ s.size := by omega
      clear hend
      have HW : (k < s.size ∧ ∃ c : Nat, c < 256 ∧ c ≠ 47 ∧ (∀ W, (Instr.index 9 (.string s) (.int .i64 (k : Int))).run Tryz.prog W = .ok (.int .u8 (c : Int)) W) ∧ ∃ x : UInt8, x.toNat = c ∧ l[k]? = some x) ∨
          (k < s.size ∧ (∀ W, (Instr.index 9 (.string s) (.int .i64 (k : Int))).run Tryz.prog W = .ok (.int .u8 47) W) ∧ Hid (∀ x, l[k]? = some x → x.toNat = 47)) ∨ (¬ k < s.size ∧ Hid (∀ x, l[k]? = some x → x.toNat = 47)) := by
        by_cases hlt : k < s.size
        · obtain ⟨c, h1, h2, x, h3, h4⟩ := HL.out k hlt
          by_cases h47 : c = 47
          · subst h47
            refine .inr (.inl ⟨hlt, h2, ?_⟩)
            show ∀ _, _
            intro y hy
            rw [h4] at hy; cases hy; exact h3
          · exact .inl ⟨hlt, c, h1, h47, h2, x, h3, h4⟩
        · refine .inr (.inr ⟨hlt, ?_⟩)
          show ∀ _, _
          intro y hy
          rw [List.getElem?_eq_none (by rw [HP.out.1]; omega)] at hy; cases hy
      rcases HW with ⟨hlt, c, hc, h47, hix, x, hx, hxk⟩ | ⟨hlt, hix, HE⟩ | ⟨hlt, HE⟩
      · have d4 : decide ((k : Int) < (s.size : Int)) = true := decide_eq_true (by omega)
        have d5 : ((c : Int) == 47) = false := by simp; omega
        have d6 : ¬ (c : Int) = 47 := by omega
        have HN : Hid (letB c = true → ∃ D, PathSt l F (k + 1) D) := fun h => by
          obtain ⟨D, hD⟩ := HS.out
          exact ⟨D, hD.char hxk (by rw [hx]; exact h47) (by rw [hx]; exact h)⟩
        have HF : Hid (letB c = false → r = false) := fun h => by
          cases e : r
          · rfl
          · have := (HI.out e).2.2.1 x (List.mem_of_getElem? hxk)
            rw [hx, h] at this
            rcases this with h1 | h1
            · cases h1
            · exact absurd h1 h47
        clear hxk hx HD HI HS HL HP
        have H : c < 45 ∨ c = 45 ∨ c = 46 ∨ c = 47 ∨ (48 ≤ c ∧ c ≤ 57) ∨ (58 ≤ c ∧ c ≤ 94) ∨ c = 95 ∨ c = 96 ∨ (97 ≤ c ∧ c ≤ 122) ∨ 123 ≤ c := by omega
        have G1 : Hid ((45 ≤ c ∧ c ≤ 46) ∨ (48 ≤ c ∧ c ≤ 57) ∨ c = 95 ∨ (97 ≤ c ∧ c ≤ 122) → ∃ D, PathSt l F (k + 1) D) := fun h => HN.out (by unfold letB; simp; omega)
        have G2 : Hid (¬ ((45 ≤ c ∧ c ≤ 46) ∨ (48 ≤ c ∧ c ≤ 57) ∨ c = 95 ∨ (97 ≤ c ∧ c ≤ 122)) → r = false) := fun h => HF.out (by unfold letB; simp; omega)
        clear HN HF
        go_upto_region 9 with fail
        rcases H with h | h | h | h | h | h | h | h | h | h
        all_goals first | have f0 : decide ((97 : Int) ≤ (c : Int)) = true := decide_eq_true (by omega) | have f0 : decide ((97 : Int) ≤ (c : Int)) = false := decide_eq_false (by omega)
        all_goals first | have f1 : decide ((c : Int) ≤ 122) = true := decide_eq_true (by omega) | have f1 : decide ((c : Int) ≤ 122) = false := decide_eq_false (by omega)
        all_goals first | have f2 : decide ((48 : Int) ≤ (c : Int)) = true := decide_eq_true (by omega) | have f2 : decide ((48 : Int) ≤ (c : Int)) = false := decide_eq_false (by omega)
        all_goals first | have f3 : decide ((c : Int) ≤ 57) = true := decide_eq_true (by omega) | have f3 : decide ((c : Int) ≤ 57) = false := decide_eq_false (by omega)
        all_goals first | have g0 : ((c : Int) == 46) = false := beq_false_of_ne (by omega) | have g0 : ((c : Int) == 46) = true := beq_iff_eq.2 (by omega)
        all_goals first | have g1 : ((c : Int) == 95) = false := beq_false_of_ne (by omega) | have g1 : ((c : Int) == 95) = true := beq_iff_eq.2 (by omega)
        all_goals first | have g2 : ((c : Int) == 45) = false := beq_false_of_ne (by omega) | have g2 : ((c : Int) == 45) = true := beq_iff_eq.2 (by omega)
        all_goals go_wp2_with fail
        all_goals first
          | (go_ret; exact ⟨ret_bool (G2.out (by omega)).symm, HB.out⟩)
          | (go_roundw
             · exact ⟨F, k + 1, by omega, by omega, rfl, by go_num, G1.out (by omega), HB⟩
             · simp [intOf]; omega)
      case' inr.inl => have d4 : decide (k < s.size) = true := decide_eq_true (by omega)
      case' inr.inr => have d4 : decide (k < s.size) = false := decide_eq_false (by omega)
      all_goals
        have hsl2 := str_slice s F k hFk hks
        have hpl : (s.extract F k).toList = (l.take k).drop F := by rw [str_piece, ← HP.out.2]
        obtain ⟨p, hp⟩ : ∃ p, p = s.extract F k := ⟨_, rfl⟩
        rw [← hp] at hsl2 hpl
        have HM : Hid (partB p.toList = false → r = false) := fun h => by
          obtain ⟨D, hD⟩ := HS.out
          cases e : r
          · rfl
          · have := (HI.out e).2.2.2.1 _ (hD.mem (by rw [HP.out.1]; exact hks) HE.out).1
            rw [← hpl, h] at this; cases this
        have HM1 : Hid (F = 0 → p.toList = [111, 108, 100] → r = false) := fun h h2 => by
          obtain ⟨D, hD⟩ := HS.out
          cases e : r
          · rfl
          · refine absurd ?_ (HI.out e).2.2.2.2.1
            rw [(hD.mem (by rw [HP.out.1]; exact hks) HE.out).2 h, ← hpl, h2]
        have HM2 : Hid (F = 0 → p.toList = [116, 109, 112] → r = false) := fun h h2 => by
          obtain ⟨D, hD⟩ := HS.out
          cases e : r
          · rfl
          · refine absurd ?_ (HI.out e).2.2.2.2.2
            rw [(hD.mem (by rw [HP.out.1]; exact hks) HE.out).2 h, ← hpl, h2]
        have HN : Hid (partB p.toList = true → (F = 0 → p.toList ≠ [111, 108, 100]) → (F = 0 → p.toList ≠ [116, 109, 112]) → ∃ D, PathSt l (k + 1) (k + 1) D) := fun h h1 h2 => by
          obtain ⟨D, hD⟩ := HS.out
          rw [hpl] at h h1 h2
          exact ⟨_, hD.part (by rw [HP.out.1]; exact hks) HE.out h h1 h2⟩
        clear hp hpl HD HI HS HL HP HE
        by_cases c1 : p.toList = []
        · have HF2 := Lib.hid (HM.out (by rw [c1]; rfl))
          clear HM HM1 HM2 HN
          have e1 : p.toList.isEmpty = true := by rw [c1]; rfl
          go_wp2_with fail
          go_ret
          exact ⟨ret_bool HF2.out.symm, HB.out⟩
        have n1 : p.toList.isEmpty = false := by cases h : p.toList with | nil => exact absurd h c1 | cons _ _ => rfl
        by_cases c2 : p.toList = [46]
        · have HF2 := Lib.hid (HM.out (by rw [c2]; rfl))
          clear HM HM1 HM2 HN
          have e1 : (p.toList == [46]) = true := by rw [c2]; rfl
          go_wp2_with fail
          go_ret
          exact ⟨ret_bool HF2.out.symm, HB.out⟩
        have n2 : (p.toList == [46]) = false := by simpa using c2
        by_cases c3 : p.toList = [46, 46]
        · have HF2 := Lib.hid (HM.out (by rw [c3]; rfl))
          clear HM HM1 HM2 HN
          have e1 : (p.toList == [46, 46]) = true := by rw [c3]; rfl
          go_wp2_with fail
          go_ret
          exact ⟨ret_bool HF2.out.symm, HB.out⟩
        have n3 : (p.toList == [46, 46]) = false := by simpa using c3
        have HG := Lib.hid (HN.out (by unfold partB; simp [c1, c2, c3]))
        clear HM HN
        by_cases c0 : F = 0
        · have z : ((F : Int) == 0) = true := beq_iff_eq.2 (by omega)
          by_cases c4 : p.toList = [111, 108, 100]
          · have HF2 := Lib.hid (HM1.out c0 c4)
            have e1 : (p.toList == [111, 108, 100]) = true := by rw [c4]; rfl
            clear HM1 HM2 HG c0
            go_wp2_with fail
            go_ret
            exact ⟨ret_bool HF2.out.symm, HB.out⟩
          have n4 : (p.toList == [111, 108, 100]) = false := by simpa using c4
          by_cases c5 : p.toList = [116, 109, 112]
          · have HF2 := Lib.hid (HM2.out c0 c5)
            have e1 : (p.toList == [116, 109, 112]) = true := by rw [c5]; rfl
            clear HM1 HM2 HG c0
            go_wp2_with fail
            go_ret
            exact ⟨ret_bool HF2.out.symm, HB.out⟩
          have n5 : (p.toList == [116, 109, 112]) = false := by simpa using c5
          have HG2 := Lib.hid (HG.out (fun _ => c4) (fun _ => c5))
          clear HM1 HM2 HG c0
          go_wp2_with fail
          go_roundw
          case rel => exact ⟨k + 1, k + 1, by omega, by omega, by go_num, by go_num, HG2, HB⟩
          case measure => simp [intOf]; omega
        · have z : ((F : Int) == 0) = false := beq_false_of_ne (by omega)
          have HG2 := Lib.hid (HG.out (fun h => absurd h c0) (fun h => absurd h c0))
          clear HM1 HM2 HG
          go_wp2_with fail
          go_roundw
          case rel => exact ⟨k + 1, k + 1, by omega, by omega, by go_num, by go_num, HG2, HB⟩
          case measure => simp [intOf]; omega
end Go.Proofs.YtfgaohilpbocbaaGreatDoor
end
