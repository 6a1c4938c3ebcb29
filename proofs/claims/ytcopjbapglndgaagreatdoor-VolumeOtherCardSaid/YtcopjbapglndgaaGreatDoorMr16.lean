/-
  Package packet's Formed.
  Names, plainly: what a reader knows who goes through a name from the left, part by part.
  The document's Path: whether a file of a set may be named so.
  The document's Formed.
  A set's directory: each packet of it is right; what all of it tells is short.
  Rows of packets: two built at once; a set's name written into one; slices of what is known of slices, cut.
-/
import Derived.Test.YtcopjbapglndgaaGreatDoorMr15
import Derived.Lib.QuietBelow
import Derived.Deep.QuietTactic
import Derived.BigQuiet
import Derived.Laws.CopyRow
section
namespace Go.Proofs.YtcopjbapglndgaaGreatDoor
open Go.ChangeShapes Go.WideShapes Go.ChangeAt Go.RowKit Go.Joins
set_option linter.unusedVariables false

def FormedPost (S : St) (w : World) (e : Ending) (w' : World) : Prop := (∃ r : Bool, e = .returned (.bool r) ∧ (r = true ↔ FormedP S)) ∧ Below w.heap.size w w'
theorem FormedPost.no {S : St} {w w' : World} (h : ¬ FormedP S) (hb : Below w.heap.size w w') : FormedPost S w (.returned (.bool false)) w' := ⟨⟨false, rfl, by simpa using h⟩, hb⟩
/-- A set that is a parameter, in its box. -/
structure SetBox (w : World) (b : Nat) (S : St) (fa : Option Addr) (fc : Nat) (sa : Option Addr) (sc : Nat) : Prop where
  c0 : w.cell? ⟨b, 0, none⟩ = some (.int .i64 S.slice)
  c1 : w.cell? ⟨b, 1, none⟩ = some (.slice fa S.files.length fc)
  c2 : w.cell? ⟨b, 2, none⟩ = some (.slice sa S.slices.length sc)
theorem SetBox.new (w : World) (S : St) (fa : Option Addr) (fc : Nat) (sa : Option Addr) (sc : Nat) : SetBox (w.alloc (.cells (rowArr 3 (setV S fa fc sa sc)) 29)) w.heap.size S fa fc sa sc :=
  ⟨by rw [World.cell?_alloc_new]; rfl, by rw [World.cell?_alloc_new]; rfl, by rw [World.cell?_alloc_new]; rfl⟩
theorem SetBox.below {w w' : World} {b : Nat} {S : St} {fa : Option Addr} {fc : Nat} {sa : Option Addr} {sc : Nat} (h : SetBox w b S fa fc sa sc) (k : Below w.heap.size w w') : SetBox w' b S fa fc sa sc := by
  have hb : b < w.heap.size := World.block_lt_of_cell? w _ h.c0
  exact ⟨(k.cell (p := ⟨b, 0, none⟩) hb).trans h.c0, (k.cell (p := ⟨b, 1, none⟩) hb).trans h.c1, (k.cell (p := ⟨b, 2, none⟩) hb).trans h.c2⟩
set_option maxRecDepth 1000000 in
set_option maxHeartbeats 16000000 in
theorem formed_any (S : St) (fa : Option Addr) (fc : Nat) (sa : Option Addr) (sc : Nat) (w : World) (hs : SetAt w S fa fc sa sc) (hm : Mx w) :
    Calls Tryz.prog 46 #[.agg (rowArr 3 (setV S fa fc sa sc))] w (FormedPost S w) := by
  have mixed : Tryz.prog.follows .mixedOrders = true := by kernel_rfl
  have hB0 : Below w.heap.size w (w.alloc (.cells (rowArr 3 (setV S fa fc sa sc)) 29)) := (Below.refl _ _).alloc (Nat.le_refl _) _
  have HX := Lib.hid (SetBox.new w S fa fc sa sc)
  have HS := Lib.hid (hs.below hB0)
  have HM := Lib.hid (hm.below hB0)
  have HB := Lib.hid hB0
  have hfl := hs.files.lt
  have hsl := hs.slices.lt
  obtain ⟨sr1, sr2⟩ := hs.slice
  obtain ⟨PQ, hPQ⟩ : ∃ PQ, PQ = FormedPost S w := ⟨_, rfl⟩
  have HPQ := Lib.hid hPQ
  rw [← hPQ]
  obtain ⟨arr, harr⟩ : ∃ arr, arr = rowArr 3 (setV S fa fc sa sc) := ⟨_, rfl⟩
  rw [← harr] at HX HS HM HB ⊢
  clear harr hB0 hs hm hPQ
  go_enter Tryz.func46, Tryz.ntmps46
  go_upto_region 1 with fail
  obtain ⟨b, hb⟩ : ∃ b, b = w.heap.size := ⟨_, rfl⟩
  rw [← hb] at HX ⊢
  generalize w.alloc (.cells arr 29) = w1 at *
  clear hb
  have c0 := HX.out.c0
  have c1 := HX.out.c1
  have c2 := HX.out.c2
  have HNO : Hid (∀ w', ¬ FormedP S → Below w.heap.size w w' → PQ (.returned (.bool false)) w') := by
    show ∀ _, _
    rw [HPQ.out]; exact fun w' h hb => FormedPost.no h hb
  by_cases q1 : S.slice < 1
  · have d : decide (S.slice < 1) = true := decide_eq_true q1
    have HR := Lib.hid (HNO.out w1 (fun h => by have := h.s1; omega) HB.out)
    go_wp2_with fail
    exact HR.out
  have d1 : decide (S.slice < 1) = false := decide_eq_false q1
  by_cases q2 : 256 < S.slice
  · have d : decide (256 < S.slice) = true := decide_eq_true q2
    have HR := Lib.hid (HNO.out w1 (fun h => by have := h.s2; omega) HB.out)
    go_wp2_with fail
    exact HR.out
  have d2 : decide (256 < S.slice) = false := decide_eq_false q2
  by_cases q3 : 64 < S.slices.length
  · have d : decide ((64 : Int) < (S.slices.length : Int)) = true := decide_eq_true (by omega)
    have HR := Lib.hid (HNO.out w1 (fun h => by have := h.m1; omega) HB.out)
    go_wp2_with fail
    exact HR.out
  have d3 : decide ((64 : Int) < (S.slices.length : Int)) = false := decide_eq_false (by omega)
  by_cases q4 : S.files.length < 1
  · have d : decide ((S.files.length : Int) < 1) = true := decide_eq_true (by omega)
    have HR := Lib.hid (HNO.out w1 (fun h => by have := h.f1; omega) HB.out)
    go_wp2_with fail
    exact HR.out
  have d4 : decide ((S.files.length : Int) < 1) = false := decide_eq_false (by omega)
  by_cases q5 : 8 < S.files.length
  · have d : decide ((8 : Int) < (S.files.length : Int)) = true := decide_eq_true (by omega)
    have HR := Lib.hid (HNO.out w1 (fun h => by have := h.f2; omega) HB.out)
    go_wp2_with fail
    exact HR.out
  have d5 : decide ((8 : Int) < (S.files.length : Int)) = false := decide_eq_false (by omega)
  have hL8 : S.files.length ≤ 8 := by omega
  have hM64 : S.slices.length ≤ 64 := by omega
  have s1 : 1 ≤ S.slice := by omega
  have s2 : S.slice ≤ 256 := by omega
  have HYES : Hid (Good S S.files.length S.slices.length → FormedP S) := fun g => ⟨s1, s2, hM64, by omega, hL8, g⟩
  go_upto_region 5 with fail
  clear d1 d2 d3 d4 d5 q1 q2 q3 q4 q5
  go_wp2_with fail
  have HG0 : Hid (Good S 0 0) := .zero
  have HW0 : Hid (Below w1.heap.size w1 w1) := Below.refl _ _
  go_loopw [3, 34] (fun t i wr => ∃ n k : Nat, k ≤ S.files.length ∧ t = .int .i64 n ∧ i = .int .i64 k ∧ Hid (Good S k n) ∧ Hid (Below w1.heap.size w1 wr)) (fun _ i _ => S.files.length - (intOf i).toNat)
  case atStart => exact ⟨0, 0, by omega, rfl, rfl, HG0, HW0⟩
  case round =>
    obtain ⟨n, k, hk, rfl, rfl, HG, HW⟩ := hrel
    clear HG0 HW0
    have hn64 : n ≤ 64 := by have := HG.out.room; omega
    by_cases hlt : k < S.files.length
    · have HNR : Hid (∀ w', ¬ FileOk S n k → Below w1.heap.size w1 w' → PQ (.returned (.bool false)) w') := fun w' h hb => HNO.out w' (fun hf => h (not_formed HG.out hlt hf)) (HB.out.trans (hb.mono HB.out.size))
      obtain ⟨fb, off, rfl, hbl, hx⟩ := fils_one (HS.out.files.below HW.out) hlt
      have hok := HS.out.files.rng _ (List.getElem_mem hlt)
      have hgd : S.files.getD k zFil = S.files[k] := by simp [List.getD, hlt]
      have hfr := fils_front HS.out.files k (by omega)
      obtain ⟨f, hf⟩ : ∃ f, f = S.files[k] := ⟨_, rfl⟩
      rw [← hf] at hx hok hgd
      have HGD := Lib.hid hgd
      have HFL := Lib.hid hfr.2
      have HSF := Lib.hid hfr.1
      have HOK := Lib.hid hok
      have HXC := Lib.hid hx
      obtain ⟨SX, hSX⟩ : ∃ SX, SX = rowArr 35 (filV f) := ⟨_, rfl⟩
      have VX : Hid (rowArr 35 (filV f) = SX) := hSX.symm
      have hSXs : SX.size = 35 := by rw [hSX, rowArr_size]
      have hSX1 : SX.all (·.oneCell') = true := by rw [hSX]; exact oneCell_fil f
      have HSXs := Lib.hid hSXs
      have HSX1 := Lib.hid hSX1
      have HALL : Hid (∀ c : Array Value, (wr.alloc (.cells c 58)).heap[wr.heap.size]? = some (.cells c 58 (0, 0))) := fun c => heap_alloc_last wr _
      have HALB : Hid (∀ c : Array Value, Below wr.heap.size wr (wr.alloc (.cells c 58))) := fun c => (Below.refl _ _).alloc (Nat.le_refl _) _
      clear hx hok hf hSX hSXs hSX1 hgd hfr
      go_upto_region 9 with (first
        | (refine wpList_load_v (by rfl) 58 _ rfl fb (off + k * 35) 35 _ SX VX.out rfl _ HXC.out und_file rfl (by kernel_rfl) ?_)
        | (refine wpList_store_arr rfl 58 _ _ rfl wr.heap.size SX rfl rfl 58 _ (HALL.out _) (by rw [HSXs.out]; kernel_rfl) (by rw [HSXs.out]; rfl) HSX1.out ?_; intro w7 HC7 hf7; have HB67 : Hid (Below wr.heap.size wr w7) := (HALB.out _).trans (hf7.out.below (HALB.out _).size (fun k hk e => by omega)); clear hf7 HALL HALB))
      have HW7 := Lib.hid (HW.out.trans (HB67.out.mono HW.out.size))
      obtain ⟨g, hg⟩ : ∃ g, g = wr.heap.size := ⟨_, rfl⟩
      rw [← hg] at HC7
      rw [← hg]
      rw [← VX.out] at HC7
      have HX7 : Hid (Row w7 g 58 35 35 (filV f)) := Row.of_whole HC7.out
      have hlen : (S.files.take k).length = k := by rw [List.length_take]; omega
      clear HB67 HC7 HXC VX HSXs HSX1 hg HW
      obtain ⟨r0, r1, r34⟩ := fil_row HX7.out
      have k0 := cell_regrown r0
      have k1 := cell_regrown r1
      have k34 := cell_regrown r34
      have kb1 := cell_regrown (HX.out.below HW7.out).c1
      have HBG : Hid (∀ d os, Below w1.heap.size w1 (Go.Sort.grow (redrawn w7 d) os)) := fun d os => HW7.out.trans ((below_regrown w7 d os).mono HW7.out.size)
      have HNRk := Lib.hid HNR.out
      have HNR2 : Hid (¬ FileOk S n k → ∀ d os, PQ (.returned (.bool false)) (Go.Sort.grow (redrawn w7 d) os)) := fun h d os => HNR.out _ h (HBG.out d os)
      clear HNR
      by_cases p1 : f.size < 0
      · have e1 : decide (f.size < 0) = true := decide_eq_true p1
        have HR := Lib.hid (HNR2.out (fun h => by have := h.size; rw [HGD.out] at this; omega))
        clear HNR2
        refine wp_region_quiet_below mixed (by kernel_rfl) ?_
        repeat (first | go_big_quiet_step (fail) | quiet_step (fail))
        refine wpQuiet_nil ?_
        intro _ hw'
        obtain ⟨⟨dq, osq⟩, hw''⟩ := hw'
        subst hw''
        go_wp2_with fail
        exact HR.out _ _
      have e1 : decide (f.size < 0) = false := decide_eq_false p1
      by_cases p2 : f.first = (n : Int)
      case' neg =>
        have e2 : (f.first == (n : Int)) = false := beq_false_of_ne p2
        have HR := Lib.hid (HNR2.out (fun h => by have := h.first; rw [HGD.out] at this; exact p2 this))
        clear HNR2
        refine wp_region_quiet_below mixed (by kernel_rfl) ?_
        repeat (first | go_big_quiet_step (fail) | quiet_step (fail))
        refine wpQuiet_nil ?_
        intro _ hw'
        obtain ⟨⟨dq, osq⟩, hw''⟩ := hw'
        subst hw''
        go_wp2_with fail
        exact HR.out _ _
      have e2 : (f.first == (n : Int)) = true := beq_iff_eq.2 p2
      have hnz : (strOf f.name).size ≤ 9223372036854775807 := by rw [strOf_size]; exact HOK.out.short
      have CN := fun d os => Calls.regrown_of (name_any (strOf f.name) hnz (Go.Sort.grow (redrawn w7 d) os) (HM.out.below (HBG.out d os)))
      obtain ⟨q, hq⟩ : ∃ q, q = nameB (strOf f.name).data.toList := ⟨_, rfl⟩
      rw [← hq] at CN
      cases q
      case' false =>
        have HR := Lib.hid (HNR2.out (fun h => by have := h.name; rw [HGD.out, nameL_eq, ← hq] at this; cases this))
        clear HNR2 hq
        refine wp_region_quiet_below mixed (by kernel_rfl) ?_
        repeat (first | go_big_quiet_step (exact CN _ _) | quiet_step (exact CN _ _))
        refine wpQuiet_nil ?_
        intro _ hw'
        obtain ⟨⟨dq, osq⟩, hw''⟩ := hw'
        subst hw''
        go_wp2_with fail
        exact HR.out _ _
      have HNM : Hid (nameL f.name = true) := by show _ = _; rw [nameL_eq, ← hq]
      have hHas := fun d os => has_any14 (some ⟨fb, off, none⟩) fc (S.files.take k) f.name HOK.out.byte (Go.Sort.grow (redrawn w7 d) os) (HFL.out.below (HBG.out d os))
      rw [hlen] at hHas
      have hsf := HSF.out
      by_cases p3 : ∃ j, j < k ∧ ((S.files.take k).getD j zFil).name = f.name
      case' pos =>
        have CH := fun d os => Calls.regrown_of (v := .bool true) ((hHas d os).mono fun e w' ⟨⟨r, he, hr⟩, hb⟩ => ⟨by rw [he, hr.2 p3], hb⟩)
        have HR := Lib.hid (HNR2.out (fun h => by
          obtain ⟨j, hj, hje⟩ := p3
          refine h.once j hj ?_
          rw [HGD.out, ← hje]
          simp [List.getD, hj]))
        clear HNR2 hq hHas p3
        refine wp_region_quiet_below mixed (by kernel_rfl) ?_
        repeat (first | go_big_quiet_step (first | exact CN _ _ | exact CH _ _) | quiet_step (first | exact CN _ _ | exact CH _ _))
        refine wpQuiet_nil ?_
        intro _ hw'
        obtain ⟨⟨dq, osq⟩, hw''⟩ := hw'
        subst hw''
        go_wp2_with fail
        exact HR.out _ _
      have CH := fun d os => Calls.regrown_of (v := .bool false) ((hHas d os).mono fun e w' ⟨⟨r, he, hr⟩, hb⟩ => ⟨by rw [he, Bool.eq_false_iff.2 fun h => p3 (hr.1 h)], hb⟩)
      have HON : Hid (∀ j, j < k → (S.files.getD j zFil).name ≠ f.name) := fun j hj he => p3 ⟨j, hj, by rw [← he]; simp [List.getD, hj]⟩
      clear hq hHas p3
      refine wp_region_quiet_below mixed (by kernel_rfl) ?_
      repeat (first | go_big_quiet_step (first | exact CN _ _ | exact CH _ _) | quiet_step (first | exact CN _ _ | exact CH _ _))
      refine wpQuiet_nil ?_
      intro _ hw'
      obtain ⟨⟨dq, osq⟩, hw''⟩ := hw'
      subst hw''
      have HW8 := Lib.hid (HBG.out dq osq)
      have r8 := k1 dq osq
      clear CN CH k0 k1 k34 kb1 HBG HNR2 r0 r1 r34 HX7 hsf HSF HFL
      generalize Go.Sort.grow (redrawn w7 dq) osq = w8 at *
      have f0 : 0 ≤ f.size := by omega
      have HCN := Lib.hid (fun w => rcount_any f.size S.slice w HOK.out.size HS.out.slice)
      obtain ⟨c, hc⟩ : ∃ c, c = cntN f.size S.slice := ⟨_, rfl⟩
      rw [← hc] at HCN
      have HCC := Lib.hid hc
      have hc63 : c ≤ 9223372036854775807 := by rw [hc]; have := cntN_le f.size S.slice; have := HOK.out.size.2; omega
      clear hc
      have g0 : w8.cell? ⟨b, 0, none⟩ = some (.int .i64 S.slice) := (HX.out.below HW8.out).c0
      go_upto_region 12 with (go_at_call 47; refine (HCN.out _).mono ?_; rintro e w' ⟨rfl, hw⟩; obtain rfl := hw.symm)
      clear HCN
      have k1 := cell_regrown r8
      have kb0 := cell_regrown (HX.out.below HW8.out).c0
      have kb2 := cell_regrown (HX.out.below HW8.out).c2
      have HBG : Hid (∀ d os, Below w1.heap.size w1 (Go.Sort.grow (redrawn w8 d) os)) := fun d os => HW8.out.trans ((below_regrown w8 d os).mono HW8.out.size)
      have hnM := HG.out.room
      obtain ⟨r, hr⟩ : ∃ r : Nat, (S.slices.length : Int) - (n : Int) = (r : Int) := ⟨S.slices.length - n, by omega⟩
      have hrl : n + r = S.slices.length := by omega
      have HRL := Lib.hid hrl
      clear hrl
      by_cases p4 : r < c
      · have d1 : decide (r < c) = true := decide_eq_true p4
        have d2 : decide ((r : Int) < (c : Int)) = true := decide_eq_true (by omega)
        have HR : Hid (∀ d os, PQ (.returned (.bool false)) (Go.Sort.grow (redrawn w8 d) os)) := fun d os => HNRk.out _ (fun h => by have h1 := h.room; have h2 := HRL.out; rw [HGD.out, ← HCC.out] at h1; omega) (HBG.out d os)
        refine wp_region_quiet_below mixed (by kernel_rfl) ?_
        repeat (first | go_big_quiet_step (fail) | quiet_step (fail))
        refine wpQuiet_nil ?_
        intro _ hw'
        obtain ⟨⟨dq, osq⟩, hw''⟩ := hw'
        subst hw''
        go_wp2_with fail
        exact HR.out _ _
      have d1 : decide (r < c) = false := decide_eq_false p4
      have d2 : decide ((r : Int) < (c : Int)) = false := decide_eq_false (by omega)
      have hnc : n + c ≤ S.slices.length := by have := HRL.out; omega
      have hc64 : c ≤ 64 := by omega
      obtain ⟨a2, cap2, hsl2, hsm2, _⟩ := sms_slice HS.out.slices n c hnc
      have hln : ((S.slices.drop n).take c).length = c := by rw [List.length_take, List.length_drop]; omega
      have hget : ∀ i, i < c → ((S.slices.drop n).take c).getD i zSm = S.slices.getD (n + i) zSm := fun i hi => by
        simp [List.getD, hi]
      have hCut := fun d os => cut_any a2 cap2 ((S.slices.drop n).take c) f.size S.slice (Go.Sort.grow (redrawn w8 d) os) (hsm2.below (HBG.out d os)) (by omega) ⟨f0, HOK.out.size.2⟩ s1 s2
      rw [hln] at hCut
      by_cases p5 : ∀ i, i < c → (((S.slices.drop n).take c).getD i zSm).n = wantI S.slice f.size i
      case' neg =>
        have CC := fun d os => Calls.regrown_of (v := .bool false) ((hCut d os).mono fun e w' ⟨⟨r, he, hr⟩, hb⟩ => ⟨by rw [he, Bool.eq_false_iff.2 fun h => p5 (hr.1 h)], hb⟩)
        have HR : Hid (∀ d os, PQ (.returned (.bool false)) (Go.Sort.grow (redrawn w8 d) os)) := fun d os => HNRk.out _ (fun h => p5 fun i hi => by
          have h1 := h.cut i (by rw [HGD.out, ← HCC.out]; exact hi)
          rw [HGD.out] at h1
          rw [hget i hi]; exact h1) (HBG.out d os)
        clear hCut p5 hget hsm2 hln
        refine wp_region_quiet_below mixed (by kernel_rfl) ?_
        repeat (first | go_big_quiet_step (exact CC _ _) | quiet_step (exact CC _ _))
        refine wpQuiet_nil ?_
        intro _ hw'
        obtain ⟨⟨dq, osq⟩, hw''⟩ := hw'
        subst hw''
        go_wp2_with fail
        exact HR.out _ _
      have CC := fun d os => Calls.regrown_of (v := .bool true) ((hCut d os).mono fun e w' ⟨⟨r, he, hr⟩, hb⟩ => ⟨by rw [he, hr.2 p5], hb⟩)
      have HNX : Hid (Good S (k + 1) (n + c)) := by
        have := Good.next HG.out hlt ⟨by rw [HGD.out]; exact f0, by rw [HGD.out]; exact p2, by rw [HGD.out]; exact HNM.out, fun j hj => by rw [HGD.out]; exact HON.out j hj, by rw [HGD.out, ← HCC.out]; exact hnc, fun i hi => by
          rw [HGD.out] at hi ⊢
          rw [← HCC.out] at hi
          rw [← hget i hi]; exact p5 i hi⟩
        rw [HGD.out, ← HCC.out] at this
        exact this
      clear hCut p5 hget hsm2 hln HNRk
      refine wp_region_quiet_below mixed (by kernel_rfl) ?_
      repeat (first | go_big_quiet_step (exact CC _ _) | quiet_step (exact CC _ _))
      refine wpQuiet_nil ?_
      intro _ hw'
      obtain ⟨⟨dq, osq⟩, hw''⟩ := hw'
      subst hw''
      have HW9 := Lib.hid (HBG.out dq osq)
      clear CC k1 kb0 kb2 HBG
      generalize Go.Sort.grow (redrawn w8 dq) osq = w9 at *
      go_wp2_with fail
      go_roundw
      case rel => exact ⟨n + c, k + 1, by omega, by go_num, by go_num, HNX, HW9⟩
      case measure => simp [intOf]; omega
    · obtain rfl : k = S.files.length := by omega
      have HR : Hid (∀ r : Bool, (r = true ↔ n = S.slices.length) → PQ (.returned (.bool r)) wr) := by
        show ∀ _, _
        rw [HPQ.out]
        intro r hr
        refine ⟨⟨r, rfl, fun h => HYES.out (by rw [← hr.1 h]; exact HG.out), fun h => hr.2 (HG.out.one h.good)⟩, HB.out.trans (HW.out.mono HB.out.size)⟩
      have e2 : wr.cell? ⟨b, 2, none⟩ = some (.slice sa S.slices.length sc) := (HX.out.below HW.out).c2
      clear HG HYES
      go_wp2_with fail
      exact HR.out _ (by rw [beq_iff_eq]; omega)
end Go.Proofs.YtcopjbapglndgaaGreatDoor
end

section
namespace Go.Proofs.YtcopjbapglndgaaGreatDoor
set_option linter.unusedVariables false

/-- The part begins at F, the reader is at k; D: the parts ahead. -/
structure PathSt (l : List UInt8) (F k : Nat) (D : List (List UInt8)) : Prop where
  le : F ≤ k
  top : k ≤ l.length + 1
  none : ∀ c ∈ (l.take k).drop F, c ≠ 47
  let_ : ∀ c ∈ l.take k, letB c.toNat = true ∨ c.toNat = 47
  good : ∀ p ∈ D, partB p = true
  zero : F = 0 ↔ D = []
  head1 : D.head? ≠ some [111, 108, 100]
  head2 : D.head? ≠ some [116, 109, 112]
  rest : k ≤ l.length → partsN l = D ++ partsN (l.drop F)
  last : k = l.length + 1 → partsN l = D
theorem PathSt.start (l : List UInt8) : PathSt l 0 0 [] := ⟨by omega, by omega, by simp, by simp, by simp, by simp, by simp, by simp, fun _ => by simp, fun h => by omega⟩
theorem take_get {l : List UInt8} {k : Nat} {x : UInt8} (h : l[k]? = some x) : l.take (k + 1) = l.take k ++ [x] ∧ k < l.length ∧ l.drop k = x :: l.drop (k + 1) := by
  obtain ⟨hk, e⟩ := List.getElem?_eq_some_iff.1 h
  refine ⟨by rw [List.take_succ_eq_append_getElem hk, e], hk, by rw [← e, List.drop_eq_getElem_cons hk]⟩
theorem drop_piece {l : List UInt8} {F k : Nat} (h1 : F ≤ k) (h2 : k ≤ l.length) : l.drop F = (l.take k).drop F ++ l.drop k := by
  conv => lhs; rw [← List.take_append_drop k l]
  rw [List.drop_append_of_le_length (by rw [List.length_take]; omega)]
/-- A byte that isn't a stroke. -/
theorem PathSt.char {l : List UInt8} {F k : Nat} {D : List (List UInt8)} (h : PathSt l F k D) {x : UInt8} (hx : l[k]? = some x) (h47 : x.toNat ≠ 47) (hl : letB x.toNat = true) : PathSt l F (k + 1) D := by
  obtain ⟨e1, hk, e2⟩ := take_get hx
  refine ⟨by have := h.le; omega, by omega, fun c hc => ?_, fun c hc => ?_, h.good, h.zero, h.head1, h.head2, fun _ => h.rest (by omega), fun he => by omega⟩
  · rw [e1, List.drop_append_of_le_length (by rw [List.length_take]; have := h.le; omega)] at hc
    rcases List.mem_append.1 hc with hc | hc
    · exact h.none c hc
    · obtain rfl : c = x := by simpa using hc
      intro e; subst e; exact h47 rfl
  · rw [e1] at hc
    rcases List.mem_append.1 hc with hc | hc
    · exact h.let_ c hc
    · obtain rfl : c = x := by simpa using hc
      exact .inl hl
/-- The part that ends at k. -/
theorem PathSt.piece {l : List UInt8} {F k : Nat} {D : List (List UInt8)} (h : PathSt l F k D) (hk : k ≤ l.length) (he : ∀ x, l[k]? = some x → x.toNat = 47) :
    partsN (l.drop F) = (l.take k).drop F :: (if k < l.length then partsN (l.drop (k + 1)) else []) := by
  rw [drop_piece h.le hk]
  by_cases hlt : k < l.length
  · rw [if_pos hlt]
    obtain ⟨e1, _, e2⟩ := take_get (List.getElem?_eq_getElem hlt)
    have := he _ (List.getElem?_eq_getElem hlt)
    have e3 : l[k] = 47 := UInt8.toNat_inj.1 this
    rw [e2, e3, partsN_cut _ h.none]
  · rw [if_neg hlt, List.drop_eq_nil_of_le (by omega : l.length ≤ k), List.append_nil, partsN_none h.none]
theorem PathSt.mem {l : List UInt8} {F k : Nat} {D : List (List UInt8)} (h : PathSt l F k D) (hk : k ≤ l.length) (he : ∀ x, l[k]? = some x → x.toNat = 47) :
    (l.take k).drop F ∈ partsN l ∧ (F = 0 → (partsN l).head? = some ((l.take k).drop F)) := by
  rw [h.rest hk, h.piece hk he]
  refine ⟨by simp, fun h0 => ?_⟩
  rw [h.zero.1 h0]; rfl
theorem PathSt.part {l : List UInt8} {F k : Nat} {D : List (List UInt8)} (h : PathSt l F k D) (hk : k ≤ l.length) (he : ∀ x, l[k]? = some x → x.toNat = 47)
    (hg : partB ((l.take k).drop F) = true) (h1 : F = 0 → (l.take k).drop F ≠ [111, 108, 100]) (h2 : F = 0 → (l.take k).drop F ≠ [116, 109, 112]) : PathSt l (k + 1) (k + 1) (D ++ [(l.take k).drop F]) := by
  have hp := h.piece hk he
  have hr := h.rest hk
  refine ⟨by omega, by omega, fun c hc => ?_, fun c hc => ?_, fun p hp => ?_, ⟨fun e => by omega, fun e => by simp at e⟩, ?_, ?_, fun hk2 => ?_, fun e => ?_⟩
  · rw [List.drop_eq_nil_of_le (by rw [List.length_take]; omega)] at hc; simp at hc
  · by_cases hlt : k < l.length
    · obtain ⟨e1, _, e2⟩ := take_get (List.getElem?_eq_getElem hlt)
      rw [e1] at hc
      rcases List.mem_append.1 hc with hc | hc
      · exact h.let_ c hc
      · obtain rfl : c = l[k] := by simpa using hc
        exact .inr (he _ (List.getElem?_eq_getElem hlt))
    · rw [List.take_of_length_le (by omega)] at hc
      exact h.let_ c (by rw [List.take_of_length_le (by omega)]; exact hc)
  · rcases List.mem_append.1 hp with hp | hp
    · exact h.good p hp
    · obtain rfl : p = (l.take k).drop F := by simpa using hp
      exact hg
  · cases hD : D with
    | nil => intro e; exact h1 (h.zero.2 hD) (by simpa using e)
    | cons d r => have := h.head1; rw [hD] at this; exact this
  · cases hD : D with
    | nil => intro e; exact h2 (h.zero.2 hD) (by simpa using e)
    | cons d r => have := h.head2; rw [hD] at this; exact this
  · rw [hr, hp, if_pos (by omega)]; simp
  · rw [hr, hp, if_neg (by omega)]
theorem PathSt.done {l : List UInt8} {F : Nat} {D : List (List UInt8)} (h : PathSt l F (l.length + 1) D) (h40 : l.length ≤ 40) (hs : Lib.hasSuffix l [46, 103, 121, 115] = false) : nameB l = true := by
  rw [nameB_iff, h.last rfl]
  refine ⟨h40, hs, fun c hc => h.let_ c (by rw [List.take_of_length_le (by omega)]; exact hc), h.good, h.head1, h.head2⟩
end Go.Proofs.YtcopjbapglndgaaGreatDoor
end

section
namespace Go.Proofs.YtcopjbapglndgaaGreatDoor
open Go.ChangeShapes Go.WideShapes Go.ChangeAt Go.RowKit Go.Joins
set_option linter.unusedVariables false

theorem str_slice (s : ByteArray) (a b : Nat) (h1 : a ≤ b) (h2 : b ≤ s.size) (W : World) : (Instr.slice 9 (.string s) (some (.int .i64 (a : Int))) (some (.int .i64 (b : Int))) none).run Tryz.prog W = .ok (.string (s.extract a b)) W := by
  rw [run_slice_string (h := Tryz.underlying9)]
  · simp
  · omega
  · omega
  · omega
theorem str_slice_from (s : ByteArray) (a : Nat) (h2 : a ≤ s.size) (W : World) : (Instr.slice 9 (.string s) (some (.int .i64 (a : Int))) none none).run Tryz.prog W = .ok (.string (s.extract a s.size)) W := by
  rw [run_slice_string_from_if (h := Tryz.underlying9), if_pos ⟨by omega, by omega⟩]
  simp
theorem str_piece (s : ByteArray) (a b : Nat) : (s.extract a b).toList = (s.data.toList.take b).drop a := by
  rw [ByteArray.toList_eq, Lib.extract_data, List.drop_take]
set_option maxRecDepth 100000 in
set_option maxHeartbeats 4000000 in
theorem refPath_any (s : ByteArray) (hs : s.size ≤ 9223372036854775807) (w : World) :
    Calls Tryz.prog 24 #[.string s] w fun e w' => e = .returned (.bool (nameB s.data.toList)) ∧ Below w.heap.size w w' := by
  have hl : s.data.toList.length = s.size := Array.length_toList
  obtain ⟨l, hL⟩ : ∃ l, l = s.data.toList := ⟨_, rfl⟩
  obtain ⟨r, hr⟩ : ∃ r, r = nameB l := ⟨_, rfl⟩
  rw [← hL] at hl
  rw [← hL, ← hr]
  have HB0 : Hid (Below w.heap.size w w) := Below.refl _ _
  have HI : Hid (r = true → l.length ≤ 40 ∧ Lib.hasSuffix l [46, 103, 121, 115] = false ∧ (∀ c ∈ l, letB c.toNat = true ∨ c.toNat = 47) ∧ (∀ p ∈ partsN l, partB p = true) ∧ (partsN l).head? ≠ some [111, 108, 100] ∧ (partsN l).head? ≠ some [116, 109, 112]) := by
    show _ → _
    rw [hr]; exact (nameB_iff l).1
  by_cases h1 : 40 < s.size
  · have hR : Hid (r = false) := by
      show _ = _
      cases e : r
      · rfl
      · have := (HI.out e).1; omega
    clear hr
    have d1 : decide ((40 : Int) < (s.size : Int)) = true := decide_eq_true (by omega)
    go_enter Tryz.func24, Tryz.ntmps24
    go_wp2_with fail
    go_ret
    exact ⟨ret_bool hR.out.symm, HB0.out⟩
  have d1 : decide ((40 : Int) < (s.size : Int)) = false := decide_eq_false (by omega)
  have HD : Hid (∀ F D, PathSt l F (l.length + 1) D → Lib.hasSuffix l [46, 103, 121, 115] = false → r = true) := fun F D h hs => by rw [hr]; exact h.done (by omega) hs
  have HX := Lib.hasSuffix_raw s ⟨#[46, 103, 121, 115]⟩
  rw [← hL, ByteArray.toList_eq ⟨#[46, 103, 121, 115]⟩] at HX
  obtain ⟨q, hq⟩ : ∃ q, q = Lib.hasSuffix l [46, 103, 121, 115] := ⟨_, rfl⟩
  have HX : (decide (4 ≤ s.size) && ((s.extract (s.size - 4) s.size).toList == [46, 103, 121, 115])) = q := by rw [hq]; exact HX
  rw [← hq] at HD HI
  clear hq hr
  have HW : (s.size < 4 ∧ q = false) ∨ ∃ m : Nat, s.size = m + 4 ∧ ((s.extract m s.size).toList == [46, 103, 121, 115]) = q := by
    by_cases h4 : 4 ≤ s.size
    · refine .inr ⟨s.size - 4, by omega, ?_⟩
      rw [decide_eq_true h4, Bool.true_and] at HX
      exact HX
    · refine .inl ⟨by omega, ?_⟩
      rw [decide_eq_false h4, Bool.false_and] at HX
      exact HX.symm
  clear HX
  rcases HW with ⟨h4, rfl⟩ | ⟨m, hm, hx⟩
  case' inr =>
    have d2 : decide ((4 : Int) ≤ (s.size : Int)) = true := decide_eq_true (by omega)
    have hsl := str_slice_from s m (by omega)
    have hm1 : (s.size : Int) - 4 = (m : Int) := by omega
    have h44 : 4 ≤ s.size := by omega
    clear hm
    cases q
    case' true =>
      have hR : Hid (r = false) := by
        show _ = _
        cases e : r
        · rfl
        · have := (HI.out e).2.1; cases this
      clear HI HD
      go_enter Tryz.func24, Tryz.ntmps24
      go_wp2_with fail
      go_ret
      exact ⟨ret_bool hR.out.symm, HB0.out⟩
  case' inl =>
    have d2 : decide ((4 : Int) ≤ (s.size : Int)) = false := decide_eq_false (by omega)
  all_goals
    go_enter Tryz.func24, Tryz.ntmps24
    go_wp2_with fail
    have HL : Hid (∀ k, k < s.size → ∃ c : Nat, c < 256 ∧ (∀ W, (Instr.index 9 (.string s) (.int .i64 (k : Int))).run Tryz.prog W = .ok (.int .u8 (c : Int)) W) ∧ ∃ x : UInt8, x.toNat = c ∧ l[k]? = some x) := by
      show ∀ _, _
      rw [hL]; exact str_index s
    have HP : Hid (l.length = s.size ∧ l = s.data.toList) := ⟨hl, hL⟩
    have HS0 : Hid (∃ D, PathSt l 0 0 D) := ⟨[], .start l⟩
    clear hl hL hs
    go_loopw [3, 4] (fun f i wr => ∃ F k : Nat, F ≤ k ∧ k ≤ s.size + 1 ∧ f = .int .i64 F ∧ i = .int .i64 k ∧ Hid (∃ D, PathSt l F k D) ∧ Hid (Below w.heap.size w wr)) (fun _ i _ => s.size + 1 - (intOf i).toNat)
    case atStart => exact ⟨0, 0, by omega, by omega, rfl, rfl, HS0, HB0⟩
    case round =>
      obtain ⟨F, k, hFk, hk, rfl, rfl, HS, HB⟩ := hrel
      clear HS0 HB0
      by_cases hend : k = s.size + 1
      · have HF2 : Hid (r = true) := by
          obtain ⟨D, h⟩ := HS.out
          have e1 := HP.out.1
          exact HD.out F D (by rw [e1, ← hend]; exact h) (by first | rfl | trivial)
        have d3 : ¬ k ≤ s.size := by omega
        have d3b : decide (k ≤ s.size) = false := decide_eq_false (by omega)
        clear HD HI HS HL HP hend
        go_wp2_with fail
        go_ret
        exact ⟨ret_bool HF2.out.symm, HB.out⟩
      have d3b : decide (k ≤ s.size) = true := decide_eq_true (by omega)
      have hks : k ≤ s.size := by omega
      clear hend
      have HW : (k < s.size ∧ ∃ c : Nat, c < 256 ∧ c ≠ 47 ∧ (∀ W, (Instr.index 9 (.string s) (.int .i64 (k : Int))).run Tryz.prog W = .ok (.int .u8 (c : Int)) W) ∧ ∃ x : UInt8, x.toNat = c ∧ l[k]? = some x) ∨
          (k < s.size ∧ (∀ W, (Instr.index 9 (.string s) (.int .i64 (k : Int))).run Tryz.prog W = .ok (.int .u8 47) W) ∧ Hid (∀ x, l[k]? = some x → x.toNat = 47)) ∨ (¬ k < s.size ∧ Hid (∀ x, l[k]? = some x → x.toNat = 47)) := by
        by_cases hlt : k < s.size
        · obtain ⟨c, h1, h2, x, h3, h4⟩ := HL.out k hlt
          by_cases h47 : c = 47
          · subst h47
            refine .inr (.inl ⟨hlt, h2, ?_⟩)
            show ∀ _, _
            intro y hy
            rw [h4] at hy; cases hy; exact h3
          · exact .inl ⟨hlt, c, h1, h47, h2, x, h3, h4⟩
        · refine .inr (.inr ⟨hlt, ?_⟩)
          show ∀ _, _
          intro y hy
          rw [List.getElem?_eq_none (by rw [HP.out.1]; omega)] at hy; cases hy
      rcases HW with ⟨hlt, c, hc, h47, hix, x, hx, hxk⟩ | ⟨hlt, hix, HE⟩ | ⟨hlt, HE⟩
      · have d4 : decide ((k : Int) < (s.size : Int)) = true := decide_eq_true (by omega)
        have d5 : ((c : Int) == 47) = false := by simp; omega
        have d6 : ¬ (c : Int) = 47 := by omega
        have HN : Hid (letB c = true → ∃ D, PathSt l F (k + 1) D) := fun h => by
          obtain ⟨D, hD⟩ := HS.out
          exact ⟨D, hD.char hxk (by rw [hx]; exact h47) (by rw [hx]; exact h)⟩
        have HF : Hid (letB c = false → r = false) := fun h => by
          cases e : r
          · rfl
          · have := (HI.out e).2.2.1 x (List.mem_of_getElem? hxk)
            rw [hx, h] at this
            rcases this with h1 | h1
            · cases h1
            · exact absurd h1 h47
        clear hxk hx HD HI HS HL HP
        have H : c < 45 ∨ c = 45 ∨ c = 46 ∨ c = 47 ∨ (48 ≤ c ∧ c ≤ 57) ∨ (58 ≤ c ∧ c ≤ 94) ∨ c = 95 ∨ c = 96 ∨ (97 ≤ c ∧ c ≤ 122) ∨ 123 ≤ c := by omega
        have G1 : Hid ((45 ≤ c ∧ c ≤ 46) ∨ (48 ≤ c ∧ c ≤ 57) ∨ c = 95 ∨ (97 ≤ c ∧ c ≤ 122) → ∃ D, PathSt l F (k + 1) D) := fun h => HN.out (by unfold letB; simp; omega)
        have G2 : Hid (¬ ((45 ≤ c ∧ c ≤ 46) ∨ (48 ≤ c ∧ c ≤ 57) ∨ c = 95 ∨ (97 ≤ c ∧ c ≤ 122)) → r = false) := fun h => HF.out (by unfold letB; simp; omega)
        clear HN HF
        go_upto_region 9 with fail
        rcases H with h | h | h | h | h | h | h | h | h | h
        all_goals first | have f0 : decide ((97 : Int) ≤ (c : Int)) = true := decide_eq_true (by omega) | have f0 : decide ((97 : Int) ≤ (c : Int)) = false := decide_eq_false (by omega)
        all_goals first | have f1 : decide ((c : Int) ≤ 122) = true := decide_eq_true (by omega) | have f1 : decide ((c : Int) ≤ 122) = false := decide_eq_false (by omega)
        all_goals first | have f2 : decide ((48 : Int) ≤ (c : Int)) = true := decide_eq_true (by omega) | have f2 : decide ((48 : Int) ≤ (c : Int)) = false := decide_eq_false (by omega)
        all_goals first | have f3 : decide ((c : Int) ≤ 57) = true := decide_eq_true (by omega) | have f3 : decide ((c : Int) ≤ 57) = false := decide_eq_false (by omega)
        all_goals first | have g0 : ((c : Int) == 46) = false := beq_false_of_ne (by omega) | have g0 : ((c : Int) == 46) = true := beq_iff_eq.2 (by omega)
        all_goals first | have g1 : ((c : Int) == 95) = false := beq_false_of_ne (by omega) | have g1 : ((c : Int) == 95) = true := beq_iff_eq.2 (by omega)
        all_goals first | have g2 : ((c : Int) == 45) = false := beq_false_of_ne (by omega) | have g2 : ((c : Int) == 45) = true := beq_iff_eq.2 (by omega)
        all_goals go_wp2_with fail
        all_goals first
          | (go_ret; exact ⟨ret_bool (G2.out (by omega)).symm, HB.out⟩)
          | (go_roundw
             · exact ⟨F, k + 1, by omega, by omega, rfl, by go_num, G1.out (by omega), HB⟩
             · simp [intOf]; omega)
      case' inr.inl => have d4 : decide (k < s.size) = true := decide_eq_true (by omega)
      case' inr.inr => have d4 : decide (k < s.size) = false := decide_eq_false (by omega)
      all_goals
        have hsl2 := str_slice s F k hFk hks
        have hpl : (s.extract F k).toList = (l.take k).drop F := by rw [str_piece, ← HP.out.2]
        obtain ⟨p, hp⟩ : ∃ p, p = s.extract F k := ⟨_, rfl⟩
        rw [← hp] at hsl2 hpl
        have HM : Hid (partB p.toList = false → r = false) := fun h => by
          obtain ⟨D, hD⟩ := HS.out
          cases e : r
          · rfl
          · have := (HI.out e).2.2.2.1 _ (hD.mem (by rw [HP.out.1]; exact hks) HE.out).1
            rw [← hpl, h] at this; cases this
        have HM1 : Hid (F = 0 → p.toList = [111, 108, 100] → r = false) := fun h h2 => by
          obtain ⟨D, hD⟩ := HS.out
          cases e : r
          · rfl
          · refine absurd ?_ (HI.out e).2.2.2.2.1
            rw [(hD.mem (by rw [HP.out.1]; exact hks) HE.out).2 h, ← hpl, h2]
        have HM2 : Hid (F = 0 → p.toList = [116, 109, 112] → r = false) := fun h h2 => by
          obtain ⟨D, hD⟩ := HS.out
          cases e : r
          · rfl
          · refine absurd ?_ (HI.out e).2.2.2.2.2
            rw [(hD.mem (by rw [HP.out.1]; exact hks) HE.out).2 h, ← hpl, h2]
        have HN : Hid (partB p.toList = true → (F = 0 → p.toList ≠ [111, 108, 100]) → (F = 0 → p.toList ≠ [116, 109, 112]) → ∃ D, PathSt l (k + 1) (k + 1) D) := fun h h1 h2 => by
          obtain ⟨D, hD⟩ := HS.out
          rw [hpl] at h h1 h2
          exact ⟨_, hD.part (by rw [HP.out.1]; exact hks) HE.out h h1 h2⟩
        clear hp hpl HD HI HS HL HP HE
        by_cases c1 : p.toList = []
        · have HF2 := Lib.hid (HM.out (by rw [c1]; rfl))
          clear HM HM1 HM2 HN
          have e1 : p.toList.isEmpty = true := by rw [c1]; rfl
          go_wp2_with fail
          go_ret
          exact ⟨ret_bool HF2.out.symm, HB.out⟩
        have n1 : p.toList.isEmpty = false := by cases h : p.toList with | nil => exact absurd h c1 | cons _ _ => rfl
        by_cases c2 : p.toList = [46]
        · have HF2 := Lib.hid (HM.out (by rw [c2]; rfl))
          clear HM HM1 HM2 HN
          have e1 : (p.toList == [46]) = true := by rw [c2]; rfl
          go_wp2_with fail
          go_ret
          exact ⟨ret_bool HF2.out.symm, HB.out⟩
        have n2 : (p.toList == [46]) = false := by simpa using c2
        by_cases c3 : p.toList = [46, 46]
        · have HF2 := Lib.hid (HM.out (by rw [c3]; rfl))
          clear HM HM1 HM2 HN
          have e1 : (p.toList == [46, 46]) = true := by rw [c3]; rfl
          go_wp2_with fail
          go_ret
          exact ⟨ret_bool HF2.out.symm, HB.out⟩
        have n3 : (p.toList == [46, 46]) = false := by simpa using c3
        have HG := Lib.hid (HN.out (by unfold partB; simp [c1, c2, c3]))
        clear HM HN
        by_cases c0 : F = 0
        · have z : ((F : Int) == 0) = true := beq_iff_eq.2 (by omega)
          by_cases c4 : p.toList = [111, 108, 100]
          · have HF2 := Lib.hid (HM1.out c0 c4)
            have e1 : (p.toList == [111, 108, 100]) = true := by rw [c4]; rfl
            clear HM1 HM2 HG c0
            go_wp2_with fail
            go_ret
            exact ⟨ret_bool HF2.out.symm, HB.out⟩
          have n4 : (p.toList == [111, 108, 100]) = false := by simpa using c4
          by_cases c5 : p.toList = [116, 109, 112]
          · have HF2 := Lib.hid (HM2.out c0 c5)
            have e1 : (p.toList == [116, 109, 112]) = true := by rw [c5]; rfl
            clear HM1 HM2 HG c0
            go_wp2_with fail
            go_ret
            exact ⟨ret_bool HF2.out.symm, HB.out⟩
          have n5 : (p.toList == [116, 109, 112]) = false := by simpa using c5
          have HG2 := Lib.hid (HG.out (fun _ => c4) (fun _ => c5))
          clear HM1 HM2 HG c0
          go_wp2_with fail
          go_roundw
          case rel => exact ⟨k + 1, k + 1, by omega, by omega, by go_num, by go_num, HG2, HB⟩
          case measure => simp [intOf]; omega
        · have z : ((F : Int) == 0) = false := beq_false_of_ne (by omega)
          have HG2 := Lib.hid (HG.out (fun h => absurd h c0) (fun h => absurd h c0))
          clear HM1 HM2 HG
          go_wp2_with fail
          go_roundw
          case rel => exact ⟨k + 1, k + 1, by omega, by omega, by go_num, by go_num, HG2, HB⟩
          case measure => simp [intOf]; omega
end Go.Proofs.YtcopjbapglndgaaGreatDoor
end

section
namespace Go.Proofs.YtcopjbapglndgaaGreatDoor
open Go.ChangeShapes Go.WideShapes Go.ChangeAt Go.RowKit Go.Joins
set_option linter.unusedVariables false

theorem cnt_bounds {z s : Int} (h0 : 0 ≤ z) (h1 : 1 ≤ s) (h2 : s ≤ 256) (hc : 0 < cntN z s) : (((cntN z s : Nat) : Int) - 1) * s < z ∧ z ≤ ((cntN z s : Nat) : Int) * s := by
  have hz : 1 ≤ z := by
    by_cases h : z < 1
    · rw [cnt_none (.inl h)] at hc; omega
    · omega
  rw [cnt_up hz h1 h2]
  have e := Int.mul_ediv_add_emod (z - 1) s
  have m0 := Int.emod_nonneg (z - 1) (show s ≠ 0 by omega)
  have m1 := Int.emod_lt_of_pos (z - 1) (show 0 < s by omega)
  have e2 : ((z - 1) / s + 1) * s = s * ((z - 1) / s) + s := by rw [Int.add_mul, Int.one_mul, Int.mul_comm]
  have e3 : ((z - 1) / s + 1 - 1) * s = s * ((z - 1) / s) := by rw [Int.add_sub_cancel, Int.mul_comm]
  rw [e2, e3]
  omega
/-- The last slice of a file is what is left; each other one is whole. -/
theorem want_last {z s : Int} (h0 : 0 ≤ z) (h1 : 1 ≤ s) (h2 : s ≤ 256) {k : Nat} (hk : k < cntN z s) : (k + 1 = cntN z s → wantI s z k = z - (k : Int) * s) ∧ (k + 1 ≠ cntN z s → wantI s z k = s) := by
  obtain ⟨b1, b2⟩ := cnt_bounds h0 h1 h2 (by omega)
  obtain ⟨c, hc⟩ : ∃ c, c = cntN z s := ⟨_, rfl⟩
  rw [← hc] at b1 b2 hk ⊢
  unfold wantI
  refine ⟨fun h => ?_, fun h => ?_⟩
  · have e : (c : Int) * s = (k : Int) * s + s := by rw [← h]; push_cast; rw [Int.add_mul, Int.one_mul]
    omega
  · have e : ((k : Int) + 1) * s ≤ ((c : Int) - 1) * s := Int.mul_le_mul_of_nonneg_right (by omega) (by omega)
    rw [Int.add_mul, Int.one_mul] at e
    omega
end Go.Proofs.YtcopjbapglndgaaGreatDoor
end

section
namespace Go.Proofs.YtcopjbapglndgaaGreatDoor
open Go.ChangeShapes Go.WideShapes Go.ChangeAt Go.RowKit Go.Joins
set_option linter.unusedVariables false

theorem name_len {l : List Nat} (h : nameL l = true) : l.length ≤ 40 := by
  have := ((nameB_iff _).1 h).1
  simpa using this
theorem pkIn_main {S : St} (h : i64R S.slice) (h1 : S.files.length ≤ 9223372036854775807) (h2 : S.slices.length ≤ 9223372036854775807) : PkIn (mainP S) := by
  have z := i64R_small 0 (by decide)
  exact ⟨by simp [mainP, z8], fun y hy => by simp [mainP, z8] at hy; omega, i64R_small 1 (by decide), h, by unfold i64R; simp [mainP]; omega, by unfold i64R; simp [mainP]; omega, z, zFil_ok, fun x hx => (by cases hx), by simp [mainP], fun y hy => (by cases hy)⟩
theorem pkIn_file {i : Nat} {f : Fil} (hi : i ≤ 9223372036854775807) (h : FilOk f) : PkIn (fileP i f) := by
  have z := i64R_small 0 (by decide)
  exact ⟨by simp [fileP, z8], fun y hy => by simp [fileP, z8] at hy; omega, i64R_small 2 (by decide), z, z, z, by unfold i64R; simp [fileP]; omega, h, fun x hx => (by cases hx), by simp [fileP], fun y hy => (by cases hy)⟩
theorem pkIn_sums {i : Nat} {l : List Sm} (hi : i ≤ 9223372036854775807) (h : ∀ x ∈ l, SmOk x) : PkIn (sumsP i l) := by
  have z := i64R_small 0 (by decide)
  exact ⟨by simp [sumsP, z8], fun y hy => by simp [sumsP, z8] at hy; omega, i64R_small 3 (by decide), z, z, z, by unfold i64R; simp [sumsP]; omega, zFil_ok, h, by simp [sumsP], fun y hy => (by cases hy)⟩
theorem cost_app (a b : List Pk) : costN (a ++ b) = costN a + costN b := by unfold costN; simp
structure DirIn (S : St) : Prop where
  slice : i64R S.slice
  files : ∀ f ∈ S.files, FilOk f
  slices : ∀ x ∈ S.slices, SmOk x
  s1 : 1 ≤ S.slice
  s2 : S.slice ≤ 256
  m1 : S.slices.length ≤ 64
  f2 : S.files.length ≤ 8
theorem fil_getD {S : St} (h : DirIn S) {k : Nat} (hk : k < S.files.length) : FilOk (S.files.getD k zFil) := by
  have : S.files.getD k zFil = S.files[k] := by simp [List.getD, hk]
  rw [this]; exact h.files _ (List.getElem_mem hk)
theorem part_len {S : St} {k n : Nat} (h : FileOk S n k) : (partS S k).length = cntN (S.files.getD k zFil).size S.slice := by
  unfold partS
  rw [List.length_take, List.length_drop, h.first]
  have := h.room
  simp only [Int.toNat_natCast]
  omega
theorem part_mem {S : St} {k : Nat} : ∀ x ∈ partS S k, x ∈ S.slices := fun x hx => List.mem_of_mem_drop (List.mem_of_mem_take hx)
theorem partS_get {S : St} {k n : Nat} (h : FileOk S n k) {i : Nat} (hi : i < (partS S k).length) : (partS S k)[i] = S.slices.getD (n + i) zSm := by
  have h1 := part_len h
  have h2 := h.room
  have e : (S.files.getD k zFil).first.toNat = n := by rw [h.first]; simp
  have hlt : n + i < S.slices.length := by omega
  have h3 : (partS S k)[i]? = some (S.slices[n + i]) := by
    unfold partS
    rw [List.getElem?_take_of_lt (by omega), List.getElem?_drop, e, List.getElem?_eq_getElem hlt]
  have h4 : (partS S k)[i] = S.slices[n + i] := by
    rw [List.getElem?_eq_getElem hi] at h3
    exact Option.some.inj h3
  rw [h4]
  simp [List.getD, hlt]
theorem size_lt {S : St} (hd : DirIn S) {k n : Nat} (h : FileOk S n k) : (S.files.getD k zFil).size < 4294967296 := by
  obtain ⟨z, hz⟩ : ∃ z, z = (S.files.getD k zFil).size := ⟨_, rfl⟩
  have h0 := h.size
  have hr := h.room
  have hm := hd.m1
  rw [← hz] at h0 hr ⊢
  by_cases hc : 0 < cntN z S.slice
  · obtain ⟨_, b⟩ := cnt_bounds h0 hd.s1 hd.s2 hc
    have a1 : ((cntN z S.slice : Nat) : Int) * S.slice ≤ 64 * S.slice := Int.mul_le_mul_of_nonneg_right (by omega) (by have := hd.s1; omega)
    have := hd.s2
    omega
  · by_cases hz1 : z < 1
    · omega
    · have := cnt_up (n := z) (s := S.slice) (by omega) hd.s1 hd.s2
      have : 0 ≤ (z - 1) / S.slice := Int.ediv_nonneg (by omega) (by have := hd.s1; omega)
      omega
theorem want_pos {z s : Int} (h0 : 0 ≤ z) (h1 : 1 ≤ s) (h2 : s ≤ 256) {k : Nat} (hk : k < cntN z s) : 0 ≤ wantI s z k ∧ wantI s z k < 65536 := by
  obtain ⟨b1, b2⟩ := cnt_bounds h0 h1 h2 (by omega)
  have e : (k : Int) * s ≤ ((cntN z s : Nat) - 1 : Int) * s := Int.mul_le_mul_of_nonneg_right (by omega) (by omega)
  unfold wantI
  omega
theorem ok_file {S : St} (hd : DirIn S) {k n : Nat} (hk : k < S.files.length) (hn : n ≤ 64) (h : FileOk S n k) : pkOk (fileP k (S.files.getD k zFil)) := by
  have hl := name_len h.name
  have := hd.f2
  refine .inr (.inl ⟨rfl, ⟨rfl, rfl, rfl⟩, ⟨by show (0 : Int) ≤ (k : Int); omega, by show (k : Int) < 256; omega⟩, by show (S.files.getD k zFil).name.length < 256; omega, ⟨h.size, size_lt hd h⟩, ⟨?_, ?_⟩, rfl, ⟨rfl, rfl⟩⟩)
  · show 0 ≤ (S.files.getD k zFil).first
    rw [h.first]; omega
  · show (S.files.getD k zFil).first < 65536
    rw [h.first]; omega
theorem ok_sums {S : St} (hd : DirIn S) {k n : Nat} (hk : k < S.files.length) (h : FileOk S n k) : pkOk (sumsP k (partS S k)) := by
  have := hd.f2
  have hl := part_len h
  have hr := h.room
  have hm := hd.m1
  refine .inr (.inr (.inl ⟨rfl, ⟨rfl, rfl, rfl⟩, rfl, ⟨rfl, rfl⟩, ⟨by show (0 : Int) ≤ (k : Int); omega, by show (k : Int) < 256; omega⟩, by show (partS S k).length < 65536; omega, fun x hx => ?_⟩))
  have hx : x ∈ partS S k := hx
  obtain ⟨i, hi, e⟩ := List.getElem_of_mem hx
  rw [partS_get h hi] at e
  rw [← e, h.cut i (by omega)]
  exact want_pos h.size hd.s1 hd.s2 (by omega)
theorem ok_main {S : St} (hd : DirIn S) : pkOk (mainP S) := by
  have h1 := hd.s1; have h2 := hd.s2; have h3 := hd.m1; have h4 := hd.f2
  exact .inl ⟨rfl, ⟨by show 0 ≤ S.slice; omega, by show S.slice < 65536; omega⟩, ⟨by show (0 : Int) ≤ (S.files.length : Int); omega, by show (S.files.length : Int) < 256; omega⟩, ⟨by show (0 : Int) ≤ (S.slices.length : Int); omega, by show (S.slices.length : Int) < 65536; omega⟩, rfl, rfl, rfl, ⟨rfl, rfl⟩⟩
/-- The directory of the first files. -/
theorem dir_ok {S : St} (hd : DirIn S) {k n : Nat} (g : Good S k n) : (∀ p ∈ dirTo S k, PkIn p ∧ pkOk p ∧ p.file.name.length ≤ 40 ∧ p.data = [] ∧ p.set = z8) ∧ costN (dirTo S k) ≤ 100 + 240 * k + 44 * n := by
  have hf2 := hd.f2
  have hm1 := hd.m1
  induction g with
  | zero =>
    refine ⟨fun p hp => ?_, by simp [costN, dirTo, tellQ, mainP, zFil]⟩
    obtain rfl : p = mainP S := by simpa [dirTo] using hp
    exact ⟨pkIn_main hd.slice (by omega) (by omega), ok_main hd, by simp [mainP, zFil], rfl, rfl⟩
  | @next k n g hk ok ih =>
    obtain ⟨i1, i2⟩ := ih
    have hn := g.room
    have hl := name_len ok.name
    have hpl := part_len ok
    have hr := ok.room
    refine ⟨fun p hp => ?_, ?_⟩
    · rw [dirTo] at hp
      rcases List.mem_append.1 hp with hp | hp
      · exact i1 p hp
      · simp only [List.mem_cons, List.mem_nil_iff, or_false] at hp
        rcases hp with rfl | rfl
        · exact ⟨pkIn_file (by omega) (fil_getD hd hk), ok_file hd hk (by omega) ok, hl, rfl, rfl⟩
        · exact ⟨pkIn_sums (by omega) fun x hx => hd.slices x (part_mem x hx), ok_sums hd hk ok, by simp [sumsP, zFil], rfl, rfl⟩
    · rw [dirTo, cost_app]
      have e : costN [fileP k (S.files.getD k zFil), sumsP k (partS S k)] = 200 + (S.files.getD k zFil).name.length + 44 * (partS S k).length := by
        simp [costN, tellQ, fileP, sumsP, zFil]
        omega
      rw [e]
      omega
end Go.Proofs.YtcopjbapglndgaaGreatDoor
end

section
namespace Go.Proofs.YtcopjbapglndgaaGreatDoor
open Go.ChangeShapes Go.WideShapes Go.ChangeAt Go.RowKit Go.Joins
set_option linter.unusedVariables false

/-- As sms_slice; what is cut of none is none. -/
theorem sms_slice2 {w : World} {a : Option Addr} {cap : Nat} {l : List Sm} (h : Sms w a cap l) (n c : Nat) (hn : n + c ≤ l.length) (hz : a = none → cap = 0) :
    ∃ a2 cap2, (∀ W, (Instr.slice 27 (.slice a l.length cap) (some (.int .i64 (n : Int))) (some (.int .i64 ((n : Int) + (c : Int)))) none).run Tryz.prog W = .ok (.slice a2 c cap2) W) ∧ Sms w a2 cap2 ((l.drop n).take c) ∧
      (a2 = none → cap2 = 0) := by
  obtain ⟨a2, cap2, h1, h2, h3⟩ := sms_slice h n c hn
  refine ⟨a2, cap2, h1, h2, fun e => ?_⟩
  have hc := h.len
  have hm := h.most
  have h4 := h1 w
  rw [run_slice_lh w 27 a l.length cap undSms .i64 .i64 _ _ (by omega) (by omega) (by omega), elemSm, Tryz.sizeOf64] at h4
  simp only [Result.andThen] at h4
  rw [show ((n : Int) + (c : Int)).toNat = n + c by omega, show ((n : Int)).toNat = n by omega] at h4
  unfold sliced at h4
  injection h4 with h5
  injection h5 with e1 e2 e3
  cases a with
  | none => have := hz rfl; omega
  | some p0 =>
    rw [e] at e1
    split at e1 <;> simp at e1
theorem op_two {o : Oper} {a : Act} {w : World} {K : Act → World → Prop} {Q : Exit → Act → World → Prop} (x y : Operand) (ho : o.op = .buildSlice 68 2 #[(0, x), (1, y)]) (A B : Pw) (hx : a.eval x = .agg (rowArr 51 (pwV A))) (hy : a.eval y = .agg (rowArr 51 (pwV B)))
    (h : K (a.put o.dst (.slice (some ⟨w.heap.size, 0, none⟩) 2 2)) (w.alloc (.cells (rowArr 102 fun j => if j < 51 then pwV A j else pwV B (j - 51)) 75))) : o.wp Tryz.prog a w K Q := by
  have hf := builtS_two (pwV A) (pwV B)
  unfold Program.builtSlice at hf
  cases hie : Tryz.prog.info? 75 with
  | none => simp [hie] at hf
  | some ie =>
    simp only [hie] at hf
    cases hz : ie.zero with
    | none => simp [hz] at hf
    | some z =>
      simp only [hz] at hf
      by_cases hc : 2 * ie.size > 2 ^ 24 ∨ 2 * ie.size = 0
      · simp [hc] at hf
      · rw [if_neg hc] at hf
        refine wp_buildSlice 68 75 2 _ ho _ ie z Tryz.underlying68 hie hz (fun h' => hc (Or.inl h')) (fun h' => hc (Or.inr h')) ?_ h
        simp only [List.map_toArray, List.map_cons, List.map_nil, hx, hy]
        exact hf
theorem two_cells {w' : World} {A B : Pw} {g : Nat} (hg : w'.heap[g]? = some (.cells (rowArr 102 fun j => if j < 51 then pwV A j else pwV B (j - 51)) 75 (0, 0))) :
    ∀ i (h : i < [A, B].length) k, k < 51 → w'.cell? ⟨g, 0 + i * 51 + k, none⟩ = some (pwV [A, B][i] k) := fun i hi k hk => by
  rw [cell_of_block hg]
  simp only [List.length_cons, List.length_nil] at hi
  have h2 : i = 0 ∨ i = 1 := by omega
  have e : 0 + i * 51 + k < 102 := by omega
  simp only [rowArr, List.getElem?_toArray, List.getElem?_map, List.getElem?_range e, Option.map_some]
  rcases h2 with rfl | rfl
  · rw [if_pos (by omega), show 0 + 0 * 51 + k = k by omega]; rfl
  · rw [if_neg (by omega), show 0 + 1 * 51 + k - 51 = k by omega]; rfl
theorem PSt.base {w0 w1 wr : World} {v : Value} {F : List Pw} (h : PSt w1 wr v F) (hb : Below w0.heap.size w0 w1) : PSt w0 wr v F := by
  refine ⟨⟨h.own.1, ?_⟩, hb.trans (h.below.mono hb.size), h.pks⟩
  rcases h.own.2 with e | ⟨g, cap, cur, e, hB, r⟩
  · exact .inl e
  · exact .inr ⟨g, cap, cur, e, Nat.le_trans hb.size hB, r⟩

/-! A set's name, written into one packet of a row. -/

def withSet (n : List Nat) (p : Pk) : Pk := { p with set := n }
def withW (n : List Nat) (f : Pw) : Pw := { f with p := withSet n f.p }
theorem withW_v (n : List Nat) (f : Pw) (j : Nat) : pwV (withW n f) j = if j < 8 then vOf n j else pwV f j := by
  unfold pwV pkV withW withSet
  split
  · rfl
  · rfl
theorem withW_in {n : List Nat} {p : Pk} (h : PkIn p) (h8 : n.length = 8) (hb : IsByte n) : PkIn (withSet n p) := ⟨h8, hb, h.kind, h.slice, h.files, h.slices, h.index, h.file, h.sums, h.id, h.data⟩
def upTo (n : List Nat) (F : List Pw) (k : Nat) : List Pw := (F.take k).map (withW n) ++ F.drop k
theorem upTo_len (n : List Nat) (F : List Pw) (k : Nat) : (upTo n F k).length = F.length := by simp [upTo]; omega
theorem upTo_at {n : List Nat} {F : List Pw} {k : Nat} (h : k < F.length) : (upTo n F k)[k]? = some F[k] := by
  unfold upTo
  rw [List.getElem?_append_right (by simp; omega), List.getElem?_drop]
  have e : k + (k - (List.map (withW n) (F.take k)).length) = k := by simp; omega
  rw [e, List.getElem?_eq_getElem h]
theorem upTo_next {n : List Nat} {F : List Pw} {k : Nat} (h : k < F.length) : (upTo n F k).set k (withW n F[k]) = upTo n F (k + 1) := by
  have e1 : (List.map (withW n) (F.take k)).length = k := by simp; omega
  unfold upTo
  rw [List.set_append_right _ _ (by omega), e1, Nat.sub_self, List.drop_eq_getElem_cons h, List.set_cons_zero, List.take_succ_eq_append_getElem h, List.map_append]
  simp
theorem upTo_all (n : List Nat) (F : List Pw) : (upTo n F F.length).map (·.p) = (F.map (·.p)).map (withSet n) := by
  simp [upTo, withW]
theorem PSt.mark {w0 wr : World} {v : Value} {F : List Pw} (h : PSt w0 wr v F) {i : Nat} {x : Pw} (hx : F[i]? = some x) (nm : List Nat) (h8 : nm.length = 8) (hb : IsByte nm) :
    ∃ g c cur, v = .slice (some ⟨g, 0, none⟩) F.length c ∧ wr.heap[g]? = some (.cells cur 75 (0, 0)) ∧ i * 51 + 8 ≤ cur.size ∧
      ∀ w', w'.heap[g]? = some (.cells (cur.toList.take (i * 51) ++ (rowArr 8 (vOf nm)).toList ++ cur.toList.drop (i * 51 + 8)).toArray 75 (0, 0)) → Fr (fun k => k = g) wr w' → PSt w0 w' v (F.set i (withW nm x)) := by
  obtain ⟨hi, hxe⟩ := List.getElem?_eq_some_iff.1 hx
  rcases h.own.2 with ⟨h1, h2⟩ | ⟨g, cap, cur, e, hB, hh, hle, hmx, hsz, htk⟩
  · omega
  have hroom : i * 51 + 51 ≤ cur.size := by omega
  refine ⟨g, cap, cur, e, hh, by omega, fun w' hg hf => ⟨⟨?_, .inr ⟨g, cap, _, by rw [e, List.length_set], hB, hg, by rw [List.length_set]; exact hle, hmx, ?_, ?_⟩⟩, ?_, fun y hy => ?_⟩⟩
  · rw [encP_len]
  · simp [rowArr]; omega
  · rw [List.length_set]
    apply List.ext_getElem?
    intro j
    by_cases hj : j < F.length * 51
    · rw [List.getElem?_take_of_lt hj]
      have hi2 : j / 51 < F.length := by omega
      have hk2 : j % 51 < 51 := Nat.mod_lt _ (by omega)
      have ej : j / 51 * 51 + j % 51 = j := by omega
      have hcur : cur.toList[j]? = some (pwV F[j / 51] (j % 51)) := by
        have h3 := encP_get hi2 hk2
        rw [ej, ← htk, List.getElem?_take_of_lt hj] at h3
        exact h3
      have hR : (encP (F.set i (withW nm x)))[j]? = some (pwV ((F.set i (withW nm x))[j / 51]'(by rw [List.length_set]; exact hi2)) (j % 51)) := by
        have h3 := encP_get (l := F.set i (withW nm x)) (i := j / 51) (by rw [List.length_set]; exact hi2) hk2
        rw [ej] at h3
        exact h3
      rw [hR, List.getElem_set]
      have hl1 : (cur.toList.take (i * 51)).length = i * 51 := by simp; omega
      have hl2 : (rowArr 8 (vOf nm)).toList.length = 8 := by simp [rowArr]
      by_cases c1 : j < i * 51
      · rw [if_neg (by omega), List.append_assoc, List.getElem?_append_left (by omega), List.getElem?_take_of_lt c1, hcur]
      · by_cases c2 : j < i * 51 + 8
        · have c3 : i = j / 51 := by omega
          rw [if_pos c3, withW_v, if_pos (by omega), List.append_assoc, List.getElem?_append_right (by omega), List.getElem?_append_left (by omega), hl1]
          have c4 : j - i * 51 < 8 := by omega
          simp only [rowArr, List.getElem?_map, List.getElem?_range c4, Option.map_some]
          rw [show j - i * 51 = j % 51 by omega]
        · have hv : cur.toList[j]? = some (if i = j / 51 then pwV (withW nm x) (j % 51) else pwV F[j / 51] (j % 51)) := by
            rw [hcur]
            split
            · rename_i c3
              rw [withW_v, if_neg (by omega), ← hxe]
              simp only [c3]
            · rfl
          rw [List.getElem?_append_right (by rw [List.length_append]; omega), List.length_append, hl1, hl2, List.getElem?_drop, show i * 51 + 8 + (j - (i * 51 + 8)) = j by omega, hv]
          split <;> rfl
    · rw [List.getElem?_eq_none (by rw [List.length_take]; omega), List.getElem?_eq_none (by rw [encP_len, List.length_set]; omega)]
  · exact h.below.trans (hf.below h.below.size fun j hj e => by omega)
  · have hap : ∀ z : Pw, ApartP v z → PkAt wr z.p z.sa z.sc z.da z.dc → PkAt w' z.p z.sa z.sc z.da z.dc := fun z h1 h2 =>
      h2.apart2 hf (fun hn q hq hb => h1.1 hn q hq (by rw [e]; simp [Value.ownBlock, hb])) (fun hn q hq hb => h1.2 hn q hq (by rw [e]; simp [Value.ownBlock, hb]))
    rcases List.mem_or_eq_of_mem_set hy with h1 | rfl
    · exact ⟨hap y (h.pks y h1).2 (h.pks y h1).1, (h.pks y h1).2⟩
    · have hm : x ∈ F := hxe ▸ List.getElem_mem hi
      have h3 := hap x (h.pks x hm).2 (h.pks x hm).1
      exact ⟨⟨withW_in h3.okk h8 hb, h3.sums, h3.data⟩, (h.pks x hm).2⟩
/-- An array stored into a part of a block. -/
theorem wpList_store_in {ops : Array Oper} {rest : List Oper} {o : Oper} {a : Act} {w : World} {Q : Exit → Act → World → Prop} (hgd : o.guard = none) (ty : TypeId) (x y : Operand) (ho : o.op = .store ty x y)
    (g off : Nat) (cells : Array Value) (hx : a.eval x = .pointer (some ⟨g, off, none⟩)) (hy : a.eval y = .agg cells)
    (t : TypeId) (old : Array Value) (hg : w.heap[g]? = some (.cells old t (0, 0))) (hi : (Tryz.prog.info? ty).map (·.size) = some cells.size) (hold : off + cells.size ≤ old.size) (h1 : cells.all (·.oneCell') = true)
    (h : ∀ w', Hid (w'.heap[g]? = some (.cells (old.toList.take off ++ cells.toList ++ old.toList.drop (off + cells.size)).toArray t (0, 0))) → Hid (Fr (fun k => k = g) w w') → wpList Tryz.prog ops Q rest (a.put o.dst undef) w') : wpList Tryz.prog ops Q (o :: rest) a w := by
  have hrun : (storeVar ty ⟨g, off, none⟩ (.agg cells)).run Tryz.prog w = .ok () (w.setRow g (old.toList.take off ++ cells.toList ++ old.toList.drop (off + cells.size)).toArray) := by
    have := run_storeCells_at (P := Tryz.prog) g off t cells.toList 0 old w hg (by simp; omega) (fun v hv => (Array.all_eq_true_iff_forall_mem.1 h1) v (by simpa using hv))
    cases hq : Tryz.prog.info? ty with
    | none => simp [hq] at hi
    | some i =>
      have hs : cells.size = i.size := by simp [hq] at hi; omega
      simp [storeVar, sizeOf, typeInfo, hq, Value.cells, hs, this]
  refine wpList_plain hgd fun K hK => ?_
  unfold Oper.wp execOp
  simp only [ho, hx, hy, Instr.storeAt, Instr.sureAddr, Sem.run_bind, Sem.run_pure, Result.andThen_ok, hrun]
  exact hK _ _ (h _ (setRow_heap _ _ _ _ _ _ hg) (Fr.setRow (X := fun k => k = g) (Fr.refl _ w) (fun _ => rfl) _))
theorem sms_none (w : World) : Sms w none 0 [] := ⟨fun x hx => (by cases hx), Nat.le_refl _, by unfold maxLen; omega, .inl rfl⟩
section
variable {P : Program} {ops : Array Oper} {Q : Exit → Act → World → Prop} {C : World → Prop} {last : Nat}
/-- A struct that is built, as soon as it may come up. -/
theorem growK_build (hs : Region.noSelect ops = true) (i : Nat) {n : Nat} {listed : Array Bool} {a : Act} {o : Oper} (t : TypeId) (parts : Array (Nat × Operand)) (cells : Array Value) (hi : ops[i]? = some o) (ho : o.op = .build t parts)
    (hil : i ≠ last) (hlo : loose ops i = false) (hsink : sinkB ops last listed = true) (hlu : listed.getD last true = false) (hf : Region.free .any ops listed i = true) (hr : (Region.ready .any ops listed).contains i = true)
    (hwt : Region.wanted o (yielded ops a.tmps) = true) (hc : P.built t (parts.map fun (i, x) => (i, a.eval x)).toList = some cells) (w : World) (hw : C w)
    (h : wpAnyT P ops (NoPanic Q) C last n (listed.setIfInBounds i true) (a.put o.dst (.agg cells)) w) : wpAnyT P ops (NoPanic Q) C last (n + 1) listed a w :=
  wpAnyT_take hi hil hlo (sink_of hsink) hlu hs hf hr (fun _ _ _ h => h) (.inl ⟨hwt, fun w _ => by
    unfold execOp
    simp only [ho, Sem.run_bind, run_build w t _ cells hc, Result.andThen_ok]
    rfl⟩) hw h
end
end Go.Proofs.YtcopjbapglndgaaGreatDoor
end
