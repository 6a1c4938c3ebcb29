/-
  Package rule's Count; package packet's cut: whether slices are as long as they are to be.
  Package packet's has: whether a file bears a name (slices.ContainsFunc with a closure).
  Slices of files and of what is known of slices, cut.
  Rows of packets, made by append; a slice of packets that is read.
  slices.Clone of what is known of slices; rows of them that are made by append.
  A set's directory, plainly; packets that are built.
-/
import Derived.Test.YtfgaohilpbocbaaGreatDoorMm15
import Derived.Great.Walk
section
namespace Go.Proofs.YtfgaohilpbocbaaGreatDoor
open Go.ChangeShapes Go.WideShapes Go.ChangeAt Go.RowKit Go.Joins
set_option linter.unusedVariables false

theorem cnt_up {n s : Int} (h1 : 1 ≤ n) (h2 : 1 ≤ s) (h3 : s ≤ 256) : ((cntN n s : Nat) : Int) = (n - 1) / s + 1 := by
  unfold cntN
  rw [if_neg (by omega)]
  obtain ⟨N, rfl⟩ : ∃ N : Nat, n = (N : Int) := ⟨n.toNat, by omega⟩
  obtain ⟨S, rfl⟩ : ∃ S : Nat, s = (S : Int) := ⟨s.toNat, by omega⟩
  have e : ((N : Int) - 1) / (S : Int) = (((N - 1) / S : Nat) : Int) := by
    rw [show (N : Int) - 1 = ((N - 1 : Nat) : Int) by omega]; rfl
  rw [e]
  simp only [Int.toNat_natCast]
  have hS : 0 < S := by omega
  have d := Nat.div_add_mod N S
  have hm := Nat.mod_lt N hS
  obtain ⟨q, hq⟩ : ∃ q, q = N / S := ⟨_, rfl⟩
  have hr : ∃ r, r = N % S := ⟨_, rfl⟩
  rw [← hq] at d
  rw [← hq]
  by_cases h0 : N % S = 0
  · rw [if_pos h0]
    have hq0 : q ≠ 0 := by intro e; subst e; simp at d; omega
    have : (N - 1) / S = q - 1 := by
      apply Nat.div_eq_of_lt_le
      · rw [Nat.sub_mul, Nat.one_mul, Nat.mul_comm]; omega
      · rw [Nat.sub_add_cancel (by omega), Nat.mul_comm]; omega
    rw [this]; omega
  · rw [if_neg h0]
    have : (N - 1) / S = q := by
      apply Nat.div_eq_of_lt_le
      · rw [Nat.mul_comm]; omega
      · rw [Nat.add_mul, Nat.one_mul, Nat.mul_comm]; omega
    rw [this]; omega
theorem cnt_none {n s : Int} (h : n < 1 ∨ s < 1 ∨ 256 < s) : cntN n s = 0 := by unfold cntN; rw [if_pos h]
set_option maxHeartbeats 1000000 in
theorem rcount_any (n s : Int) (w : World) (hn : i64R n) (hs : i64R s) :
    Calls Tryz.prog 106 #[.int .i64 n, .int .i64 s] w fun e w' => e = .returned (.int .i64 (cntN n s : Nat)) ∧ w' = w := by
  obtain ⟨hn1, hn2⟩ := hn
  obtain ⟨hs1, hs2⟩ := hs
  by_cases h1 : n < 1
  · have HV : Hid (cntN n s = 0) := cnt_none (.inl h1)
    go_enter Tryz.func106, Tryz.ntmps106
    go_wp2_with fail
    go_ret
    rw [HV.out]
    exact ⟨rfl, rfl⟩
  by_cases h2 : s < 1
  · have HV : Hid (cntN n s = 0) := cnt_none (.inr (.inl h2))
    go_enter Tryz.func106, Tryz.ntmps106
    go_wp2_with fail
    go_ret
    rw [HV.out]
    exact ⟨rfl, rfl⟩
  by_cases h3 : 256 < s
  · have HV : Hid (cntN n s = 0) := cnt_none (.inr (.inr h3))
    go_enter Tryz.func106, Tryz.ntmps106
    go_wp2_with fail
    go_ret
    rw [HV.out]
    exact ⟨rfl, rfl⟩
  have HV : Hid (((cntN n s : Nat) : Int) = (n - 1) / s + 1) := cnt_up (by omega) (by omega) (by omega)
  obtain ⟨q, hq⟩ : ∃ q, q = (n - 1) / s := ⟨_, rfl⟩
  have r1 : (n - 1).tdiv s = q := by rw [Int.tdiv_eq_ediv_of_nonneg (by omega), hq]
  have r2 : (n - 1) / s = q := hq.symm
  have hq0 : 0 ≤ q := by rw [hq]; exact Int.ediv_nonneg (by omega) (by omega)
  have hq1 : q ≤ n - 1 := by rw [hq]; exact Int.ediv_le_self _ (by omega)
  have z : ¬ s = 0 := by omega
  rw [← hq] at HV
  clear hq
  go_enter Tryz.func106, Tryz.ntmps106
  go_wp2_with fail
  go_ret
  rw [HV.out]
  exact ⟨rfl, rfl⟩
set_option maxRecDepth 1000000 in
set_option maxHeartbeats 4000000 in
theorem cut_any (a : Option Addr) (cap : Nat) (l : List Sm) (z s : Int) (w : World) (hs : Sms w a cap l) (hl : l.length ≤ 64) (hz : 0 ≤ z ∧ z ≤ 9223372036854775807) (h1 : 1 ≤ s) (h2 : s ≤ 256) :
    Calls Tryz.prog 137 #[.slice a l.length cap, .int .i64 z, .int .i64 s] w fun e w' => (∃ r : Bool, e = .returned (.bool r) ∧ (r = true ↔ ∀ i, i < l.length → (l.getD i zSm).n = wantI s z i)) ∧ Below w.heap.size w w' := by
  have mixed : Tryz.prog.follows .mixedOrders = true := by kernel_rfl
  have HS := Lib.hid hs
  obtain ⟨hz1, hz2⟩ := hz
  clear hs
  have HK0 : Hid (∀ i, i < 0 → (l.getD i zSm).n = wantI s z i) := fun i h => by omega
  have HB0 : Hid (Below w.heap.size w w) := Below.refl _ _
  go_enter Tryz.func137, Tryz.ntmps137
  go_wp2_with fail
  go_loopw [11] (fun i wr => ∃ k : Nat, k ≤ l.length ∧ i = .int .i64 k ∧ Hid (∀ i, i < k → (l.getD i zSm).n = wantI s z i) ∧ Hid (Below w.heap.size w wr)) (fun i _ => l.length - (intOf i).toNat)
  case atStart => exact ⟨0, by omega, rfl, HK0, HB0⟩
  case round =>
    obtain ⟨k, hk, rfl, HK, HB⟩ := hrel
    clear HB0 HK0
    by_cases hlt : k < l.length
    · obtain ⟨sb, off, rfl, hbl, hx⟩ := sms_one (HS.out.below HB.out) hlt
      have hok := HS.out.rng _ (List.getElem_mem hlt)
      have hgd : l.getD k zSm = l[k] := by simp [List.getD, hlt]
      obtain ⟨x, hxx⟩ : ∃ x, x = l[k] := ⟨_, rfl⟩
      rw [← hxx] at hx hok hgd
      have HXC := Lib.hid (smAt_cells hx hok)
      have HGD := Lib.hid hgd
      obtain ⟨SX, hSX⟩ : ∃ SX, SX = rowArr 34 (smV x) := ⟨_, rfl⟩
      have VX : Hid (rowArr 34 (smV x) = SX) := hSX.symm
      have hSXs : SX.size = 34 := by rw [hSX, rowArr_size]
      have hSX1 : SX.all (·.oneCell') = true := by rw [hSX]; exact oneCell_sm x
      have HSXs := Lib.hid hSXs
      have HSX1 := Lib.hid hSX1
      have HALL : Hid (∀ c : Array Value, (wr.alloc (.cells c 52)).heap[wr.heap.size]? = some (.cells c 52 (0, 0))) := fun c => heap_alloc_last wr _
      have HALB : Hid (∀ c : Array Value, Below wr.heap.size wr (wr.alloc (.cells c 52))) := fun c => (Below.refl _ _).alloc (Nat.le_refl _) _
      have hokn := hok.1
      clear hx hok hxx hSX hSXs hSX1 hgd
      go_upto_region 4 with (first
        | (refine wpList_load_v (by rfl) 52 _ rfl sb (off + k * 34) 34 _ SX VX.out rfl _ HXC.out und_sm rfl (by kernel_rfl) ?_)
        | (refine wpList_store_arr rfl 52 _ _ rfl wr.heap.size SX rfl rfl 52 _ (HALL.out _) (by rw [HSXs.out]; kernel_rfl) (by rw [HSXs.out]; rfl) HSX1.out ?_; intro w7 HC7 hf7; have HB67 : Hid (Below wr.heap.size wr w7) := (HALB.out _).trans (hf7.out.below (HALB.out _).size (fun k hk e => by omega)); clear hf7 HALL HALB))
      have HB7 := Lib.hid (HB.out.trans (HB67.out.mono HB.out.size))
      obtain ⟨g, hg⟩ : ∃ g, g = wr.heap.size := ⟨_, rfl⟩
      rw [← hg] at HC7
      rw [← hg]
      rw [← VX.out] at HC7
      have HX7 : Hid (Row w7 g 52 34 34 (smV x)) := Row.of_whole HC7.out
      clear HB67 HC7 HXC VX HSXs HSX1 hg HB
      have c0 : w7.cell? ⟨g, 0, none⟩ = some (.int .i64 x.n) := HX7.out.cell 0 (by omega)
      obtain ⟨m, hm⟩ : ∃ m, (k : Int) * s = m := ⟨_, rfl⟩
      have hm0 : 0 ≤ m := by rw [← hm]; exact Int.mul_nonneg (by omega) (by omega)
      have hm1 : m ≤ 16384 := by
        rw [← hm]
        have a1 : (k : Int) * s ≤ 64 * s := Int.mul_le_mul_of_nonneg_right (by omega) (by omega)
        omega
      have HW : Hid (wantI s z k = min s (z - m)) := by show _ = _; unfold wantI; rw [hm]
      have hnx := hokn
      obtain ⟨hn1, hn2⟩ := hnx
      obtain ⟨t, ht⟩ : ∃ t, min s (z - m) = t := ⟨_, rfl⟩
      have HT : Hid (wantI s z k = t) := by show _ = _; rw [HW.out, ht]
      obtain ⟨xn, hxn⟩ : ∃ xn, xn = x.n := ⟨_, rfl⟩
      rw [← hxn] at c0 hn1 hn2
      have HXN := Lib.hid hxn
      clear hxn hokn HW HX7
      by_cases hx : xn = t
      · have b1 : (xn == t) = true := beq_iff_eq.2 hx
        have HN : Hid (∀ i, i < k + 1 → (l.getD i zSm).n = wantI s z i) := fun i hi => by
          by_cases e : i = k
          · subst e
            rw [HGD.out, HT.out, ← HXN.out, hx]
          · exact HK.out i (by omega)
        clear HK HT HXN HGD
        go_wp2_with fail
        go_roundw
        case rel => exact ⟨k + 1, by omega, by go_num, HN, HB7⟩
        case measure => simp [intOf]; omega
      · have b1 : (xn == t) = false := beq_false_of_ne hx
        have HF : Hid (¬ ∀ i, i < l.length → (l.getD i zSm).n = wantI s z i) := fun h => hx (by rw [HXN.out, ← HGD.out, h k hlt, HT.out])
        clear HK HT HXN HGD
        go_wp2_with fail
        go_ret
        exact ⟨⟨false, rfl, by simpa using HF.out⟩, HB7.out⟩
    · obtain rfl : k = l.length := by omega
      go_wp2_with fail
      go_ret
      exact ⟨⟨true, rfl, by simpa using HK.out⟩, HB.out⟩
end Go.Proofs.YtfgaohilpbocbaaGreatDoor
end

section
namespace Go.Proofs.YtfgaohilpbocbaaGreatDoor
open Go.ChangeShapes Go.WideShapes Go.ChangeAt Go.RowKit Go.Joins
set_option linter.unusedVariables false

theorem hasClo_any (f : Fil) (hf : FilOk f) (bx : Nat) (nm : List Nat) (hn : IsByte nm) (w : World) (hc : w.cell? ⟨bx, 0, none⟩ = some (.string (strOf nm))) :
    Calls Tryz.prog 178 #[.agg (rowArr 35 (filV f)), .pointer (some ⟨bx, 0, none⟩)] w fun e w' => e = .returned (.bool (decide (f.name = nm))) ∧ Below w.heap.size w w' := by
  obtain ⟨r, hr⟩ : ∃ r, r = decide (f.name = nm) := ⟨_, rfl⟩
  have HQ : Hid (((strOf f.name).toList == (strOf nm).toList) = r) := by show _ = _; rw [hr]; exact str_beq hf.byte hn
  have hb : bx < w.heap.size := World.block_lt_of_cell? w _ hc
  have HB : Hid (Below w.heap.size w (w.alloc (.cells (rowArr 35 (filV f)) 98))) := (Below.refl _ _).alloc (Nat.le_refl _) _
  have h0 : (w.alloc (.cells (rowArr 35 (filV f)) 98)).cell? ⟨w.heap.size, 0, none⟩ = some (.string (strOf f.name)) := (filV_at f _ _ _ (heap_alloc_last w _)).1
  have h1 : (w.alloc (.cells (rowArr 35 (filV f)) 98)).cell? ⟨bx, 0, none⟩ = some (.string (strOf nm)) := (HB.out.cell hb).trans hc
  rw [← hr]
  obtain ⟨arr, harr⟩ : ∃ arr, arr = rowArr 35 (filV f) := ⟨_, rfl⟩
  rw [← harr] at HB h0 h1 ⊢
  obtain ⟨A, hA⟩ : ∃ A, A = strOf f.name := ⟨_, rfl⟩
  obtain ⟨B, hB⟩ : ∃ B, B = strOf nm := ⟨_, rfl⟩
  rw [← hA, ← hB] at HQ
  rw [← hA] at h0
  rw [← hB] at h1
  clear hr harr hc hA hB
  go_enter Tryz.func178, Tryz.ntmps178
  go_wp2_with fail
  go_ret
  exact ⟨ret_bool HQ.out, HB.out⟩
set_option maxRecDepth 1000000 in
set_option maxHeartbeats 2000000 in
theorem hasIndex_any (a : Option Addr) (cap : Nat) (l : List Fil) (bx : Nat) (nm : List Nat) (hn : IsByte nm) (w : World) (hs : Fils w a cap l) (hc : w.cell? ⟨bx, 0, none⟩ = some (.string (strOf nm))) :
    Calls Tryz.prog 204 #[.slice a l.length cap, .func (.func 178) #[] #[.pointer (some ⟨bx, 0, none⟩)]] w fun e w' =>
      (∃ r : Int, e = .returned (.int .i64 r) ∧ (0 ≤ r ↔ ∃ j, j < l.length ∧ (l.getD j zFil).name = nm)) ∧ Below w.heap.size w w' := by
  have HS := Lib.hid hs
  have hlm := hs.lt
  have hb : bx < w.heap.size := World.block_lt_of_cell? w _ hc
  have HC := Lib.hid hc
  clear hs hc
  have HK0 : Hid (∀ j, j < 0 → (l.getD j zFil).name ≠ nm) := fun i h => by omega
  have HB0 : Hid (Below w.heap.size w w) := Below.refl _ _
  go_enter Tryz.func204, Tryz.ntmps204
  go_wp2_with fail
  go_loopw [8] (fun i wr => ∃ k : Nat, k ≤ l.length ∧ i = .int .i64 k ∧ Hid (∀ j, j < k → (l.getD j zFil).name ≠ nm) ∧ Hid (Below w.heap.size w wr)) (fun i _ => l.length - (intOf i).toNat)
  case atStart => exact ⟨0, by omega, rfl, HK0, HB0⟩
  case round =>
    obtain ⟨k, hk, rfl, HK, HB⟩ := hrel
    clear HB0 HK0
    by_cases hlt : k < l.length
    · obtain ⟨sb, off, rfl, hbl, hx⟩ := fils_one (HS.out.below HB.out) hlt
      have hok := HS.out.rng _ (List.getElem_mem hlt)
      have hgd : l.getD k zFil = l[k] := by simp [List.getD, hlt]
      obtain ⟨x, hxx⟩ : ∃ x, x = l[k] := ⟨_, rfl⟩
      rw [← hxx] at hx hok hgd
      have HXC := Lib.hid hx
      have HA := Lib.hid (hasClo_any x hok bx nm hn wr ((HB.out.cell hb).trans HC.out))
      have HT : Hid (decide (x.name = nm) = true → ∃ j, j < l.length ∧ (l.getD j zFil).name = nm) := fun h => ⟨k, hlt, by rw [hgd]; exact of_decide_eq_true h⟩
      have HF : Hid (decide (x.name = nm) = false → ∀ j, j < k + 1 → (l.getD j zFil).name ≠ nm) := fun h j hj => by
        by_cases e : j = k
        · subst e; rw [hgd]; exact of_decide_eq_false h
        · exact HK.out j (by omega)
      obtain ⟨SX, hSX⟩ : ∃ SX, SX = rowArr 35 (filV x) := ⟨_, rfl⟩
      have VX : Hid (rowArr 35 (filV x) = SX) := hSX.symm
      rw [← hSX] at HA
      obtain ⟨q, hq⟩ : ∃ q, q = decide (x.name = nm) := ⟨_, rfl⟩
      rw [← hq] at HA HT HF
      clear hx hok hxx hSX hgd hq HK
      cases q
      · have HF2 := Lib.hid (HF.out rfl)
        go_wp2_with (first
          | (refine wpList_load_v (by rfl) 98 _ rfl sb (off + k * 35) 35 _ SX VX.out rfl _ HXC.out und_file rfl (by kernel_rfl) ?_)
          | (go_at_call 178; refine HA.out.mono ?_; rintro e w2 ⟨rfl, hb2⟩; have HB2 := Lib.hid (HB.out.trans (hb2.mono HB.out.size)); clear hb2))
        go_roundw
        case rel => exact ⟨k + 1, by omega, by go_num, HF2, HB2⟩
        case measure => simp [intOf]; omega
      · have HT2 := Lib.hid (HT.out rfl)
        go_wp2_with (first
          | (refine wpList_load_v (by rfl) 98 _ rfl sb (off + k * 35) 35 _ SX VX.out rfl _ HXC.out und_file rfl (by kernel_rfl) ?_)
          | (go_at_call 178; refine HA.out.mono ?_; rintro e w2 ⟨rfl, hb2⟩; have HB2 := Lib.hid (HB.out.trans (hb2.mono HB.out.size)); clear hb2))
        go_ret
        exact ⟨⟨(k : Int), rfl, by constructor; · exact fun _ => HT2.out
                                   · exact fun _ => by omega⟩, HB2.out⟩
    · obtain rfl : k = l.length := by omega
      go_wp2_with fail
      go_ret
      refine ⟨⟨-1, rfl, ?_⟩, HB.out⟩
      constructor
      · intro h; omega
      · rintro ⟨j, hj, e⟩; exact absurd e (HK.out j hj)
set_option maxRecDepth 1000000 in
theorem hasAny_any (a : Option Addr) (cap : Nat) (l : List Fil) (bx : Nat) (nm : List Nat) (hn : IsByte nm) (w : World) (hs : Fils w a cap l) (hc : w.cell? ⟨bx, 0, none⟩ = some (.string (strOf nm))) :
    Calls Tryz.prog 177 #[.slice a l.length cap, .func (.func 178) #[] #[.pointer (some ⟨bx, 0, none⟩)]] w fun e w' =>
      (∃ r : Bool, e = .returned (.bool r) ∧ (r = true ↔ ∃ j, j < l.length ∧ (l.getD j zFil).name = nm)) ∧ Below w.heap.size w w' := by
  have HI := Lib.hid (hasIndex_any a cap l bx nm hn w hs hc)
  have hlm := hs.lt
  obtain ⟨L, hL⟩ : ∃ L, L = l.length := ⟨_, rfl⟩
  rw [← hL] at HI hlm ⊢
  clear hs hc hL
  go_enter Tryz.func177, Tryz.ntmps177
  go_wp2_with (go_at_call 204; refine HI.out.mono ?_; rintro e w2 ⟨⟨r, rfl, hr⟩, hb2⟩; have HR := Lib.hid hr; clear hr)
  go_ret
  refine ⟨⟨_, rfl, ?_⟩, hb2⟩
  rw [decide_eq_true_iff]
  exact HR.out
theorem mkFunc14 (fn : Fn) (first cap : Array Value) (w : World) : (Instr.makeFunc fn first cap).run Tryz.prog w = .ok (.func fn first cap) w := rfl
set_option maxRecDepth 1000000 in
theorem has_any14 (a : Option Addr) (cap : Nat) (l : List Fil) (nm : List Nat) (hn : IsByte nm) (w : World) (hs : Fils w a cap l) :
    Calls Tryz.prog 136 #[.slice a l.length cap, .string (strOf nm)] w fun e w' => (∃ r : Bool, e = .returned (.bool r) ∧ (r = true ↔ ∃ j, j < l.length ∧ (l.getD j zFil).name = nm)) ∧ Below w.heap.size w w' := by
  have hb : Below w.heap.size w (w.alloc (.cells #[.string (strOf nm)] 9)) := (Below.refl _ _).alloc (Nat.le_refl _) _
  have HI := Lib.hid (hasAny_any a cap l w.heap.size nm hn (w.alloc (.cells #[.string (strOf nm)] 9)) (hs.below hb) (by rw [World.cell?_alloc_new]; rfl))
  have HB := Lib.hid hb
  obtain ⟨N, hN⟩ : ∃ N, N = strOf nm := ⟨_, rfl⟩
  obtain ⟨L, hL⟩ : ∃ L, L = l.length := ⟨_, rfl⟩
  have hlm := hs.lt
  rw [← hN] at HI HB ⊢
  rw [← hL] at HI hlm ⊢
  have mk := mkFunc14
  clear hs hb hN hL
  go_enter Tryz.func136, Tryz.ntmps136
  go_wp2_with (go_at_call 177; refine HI.out.mono ?_; rintro e w2 ⟨⟨r, rfl, hr⟩, hb2⟩; have HR := Lib.hid hr; clear hr)
  go_ret
  exact ⟨⟨r, rfl, HR.out⟩, HB.out.trans (hb2.mono HB.out.size)⟩
end Go.Proofs.YtfgaohilpbocbaaGreatDoor
end

section
namespace Go.Proofs.YtfgaohilpbocbaaGreatDoor
open Go.ChangeShapes Go.WideShapes Go.ChangeAt Go.RowKit Go.Joins
set_option linter.unusedVariables false

theorem elemSm : Tryz.prog.elem 28 = 52 := by kernel_rfl
theorem undSms : Tryz.prog.underlying 28 = some (.slice (Tryz.prog.elem 28)) := by rw [elemSm]; exact Tryz.underlying28
theorem elemFil : Tryz.prog.elem 27 = 98 := by kernel_rfl
theorem undFils : Tryz.prog.underlying 27 = some (.slice (Tryz.prog.elem 27)) := by rw [elemFil]; exact Tryz.underlying27
theorem addr_add (b off n : Nat) : (⟨b, off, none⟩ : Addr).add n = ⟨b, off + n, none⟩ := by
  by_cases n0 : n = 0
  · subst n0; simp [Addr.add]
  · simp [Addr.add, n0]
/-- s[n : n + c] of what is known of slices. -/
theorem sms_slice {w : World} {a : Option Addr} {cap : Nat} {l : List Sm} (h : Sms w a cap l) (n c : Nat) (hn : n + c ≤ l.length) :
    ∃ a2 cap2, (∀ W, (Instr.slice 28 (.slice a l.length cap) (some (.int .i64 (n : Int))) (some (.int .i64 ((n : Int) + (c : Int)))) none).run Tryz.prog W = .ok (.slice a2 c cap2) W) ∧ Sms w a2 cap2 ((l.drop n).take c) ∧
      (∀ p, a2 = some p → ∃ p0, a = some p0 ∧ p.block = p0.block) := by
  have hc := h.len
  have hm := h.most
  have hr : ∀ W, (Instr.slice 28 (.slice a l.length cap) (some (.int .i64 (n : Int))) (some (.int .i64 ((n : Int) + (c : Int)))) none).run Tryz.prog W = .ok (sliced a n (n + c) cap 34) W := fun W => by
    rw [run_slice_lh W 28 a l.length cap undSms .i64 .i64 _ _ (by omega) (by omega) (by omega), elemSm, Tryz.sizeOf52]
    simp only [Result.andThen]
    rw [show ((n : Int) + (c : Int)).toNat = n + c by omega, show ((n : Int)).toNat = n by omega]
  unfold sliced at hr
  rw [Nat.add_sub_cancel_left] at hr
  refine ⟨_, _, hr, ⟨fun x hx => h.rng x (List.mem_of_mem_drop (List.mem_of_mem_take hx)), by rw [List.length_take, List.length_drop]; omega, by omega, ?_⟩, fun p hp => ?_⟩
  · rcases h.here with rfl | ⟨b, off, rfl, hb, hx⟩
    · left; simp
    · by_cases e : cap = n
      · left
        rw [List.drop_eq_nil_of_le (by omega)]; simp
      · rw [if_neg e]
        right
        refine ⟨b, off + n * 34, by simp [addr_add], hb, fun i hi => ?_⟩
        rw [List.length_take, List.length_drop] at hi
        have h2 := hx (n + i) (by omega)
        rw [List.getElem_take, List.getElem_drop]
        rw [show off + n * 34 + i * 34 = off + (n + i) * 34 by omega]
        exact h2
  · cases a with
    | none => split at hp <;> simp at hp
    | some p0 =>
      refine ⟨p0, rfl, ?_⟩
      split at hp
      · cases hp; rfl
      · simp only [Option.map_some, Option.some.injEq] at hp
        subst hp
        unfold Addr.add
        split <;> rfl
/-- s[:k] of files. -/
theorem fils_front {w : World} {a : Option Addr} {cap : Nat} {l : List Fil} (h : Fils w a cap l) (k : Nat) (hk : k ≤ l.length) :
    (∀ W, (Instr.slice 27 (.slice a l.length cap) none (some (.int .i64 (k : Int))) none).run Tryz.prog W = .ok (.slice a k cap) W) ∧ Fils w a cap (l.take k) := by
  have hc := h.len
  refine ⟨fun W => ?_, ⟨fun x hx => h.rng x (List.mem_of_mem_take hx), by rw [List.length_take]; omega, h.most, ?_⟩⟩
  · rw [run_slice_h W 27 a l.length cap undFils .i64 _ (by omega) (by omega), elemFil, Tryz.sizeOf98]
    cases a with
    | none => simp [Result.andThen, sliced]
    | some ad => simp [Result.andThen, sliced, Addr.add]
  · rcases h.here with rfl | ⟨b, off, e, hb, hx⟩
    · left; simp
    · right
      refine ⟨b, off, e, hb, fun i hi => ?_⟩
      rw [List.length_take] at hi
      rw [List.getElem_take]
      exact hx i (by omega)
theorem fil_row {w : World} {g : Nat} {f : Fil} (h : Row w g 98 35 35 (filV f)) : w.cell? ⟨g, 0, none⟩ = some (.string (strOf f.name)) ∧ w.cell? ⟨g, 1, none⟩ = some (.int .i64 f.size) ∧ w.cell? ⟨g, 34, none⟩ = some (.int .i64 f.first) := by
  refine ⟨?_, ?_, ?_⟩
  · rw [h.cell 0 (by omega)]; rfl
  · rw [h.cell 1 (by omega)]; rfl
  · rw [h.cell 34 (by omega)]; rfl
end Go.Proofs.YtfgaohilpbocbaaGreatDoor
end

section
namespace Go.Proofs.YtfgaohilpbocbaaGreatDoor
open Go.ChangeShapes Go.WideShapes Go.ChangeAt Go.RowKit Go.Joins
set_option linter.unusedVariables false

theorem pkV_all (p : Pk) (sa : Option Addr) (sc : Nat) (da : Option Addr) (dc : Nat) (j : Nat) : (pkV p sa sc da dc j).oneCell' = true := by
  unfold pkV
  (repeat' split) <;> first | rfl | skip
  unfold filV
  (repeat' split) <;> rfl
theorem PkAt.apart2 {w w' : World} {p : Pk} {sa : Option Addr} {sc : Nat} {da : Option Addr} {dc : Nat} {X : Nat → Prop} (h : PkAt w p sa sc da dc) (k : Fr X w w') (h1 : p.sums ≠ [] → ∀ q, sa = some q → ¬ X q.block) (h2 : p.data ≠ [] → ∀ q, da = some q → ¬ X q.block) : PkAt w' p sa sc da dc := by
  refine ⟨h.okk, ⟨h.sums.rng, h.sums.len, h.sums.most, ?_⟩, h.data.of_block fun q hq hl => k.block _ (h.data.blk q hq hl) (h2 hl q hq)⟩
  by_cases he : p.sums = []
  · exact .inl he
  rcases h.sums.here with e | ⟨b, off, e, hb, hc⟩
  · exact .inl e
  · refine .inr ⟨b, off, e, Nat.lt_of_lt_of_le hb k.size, fun i hi => ?_⟩
    have hbk : w'.heap[b]? = w.heap[b]? := k.block b hb (h1 he _ e)
    obtain ⟨c1, c2, c3⟩ := hc i hi
    exact ⟨(World.cell?_of_block (a := ⟨b, _, none⟩) hbk).trans c1, (World.cell?_of_block (a := ⟨b, _, none⟩) hbk).trans c2, fun j hj => (World.cell?_of_block (a := ⟨b, _, none⟩) hbk).trans (c3 j hj)⟩
/-- A packet, and where its slices lie. -/
structure Pw where
  p : Pk
  sa : Option Addr
  sc : Nat
  da : Option Addr
  dc : Nat
def pwV (f : Pw) (j : Nat) : Value := pkV f.p f.sa f.sc f.da f.dc j
def oneP (f : Pw) : List Value := (List.range 51).map (pwV f)
def encP (F : List Pw) : List Value := F.flatMap oneP
theorem oneP_len (f : Pw) : (oneP f).length = 51 := by simp [oneP]
theorem oneP_get (f : Pw) {k : Nat} (hk : k < 51) : (oneP f)[k]? = some (pwV f k) := by
  unfold oneP
  rw [List.getElem?_map, List.getElem?_range hk]
  rfl
theorem encP_len : ∀ F : List Pw, (encP F).length = F.length * 51
  | [] => rfl
  | x :: l => by
    have := encP_len l
    unfold encP at this ⊢
    simp only [List.flatMap_cons, List.length_append, this, List.length_cons, oneP_len]
    omega
theorem encP_app (l m : List Pw) : encP (l ++ m) = encP l ++ encP m := by simp [encP]
theorem encP_get {l : List Pw} : ∀ {i : Nat} (h : i < l.length) {k : Nat} (hk : k < 51), (encP l)[i * 51 + k]? = some (pwV l[i] k) := by
  induction l with
  | nil => intro i h; simp at h
  | cons x l ih =>
    intro i h k hk
    have e : encP (x :: l) = oneP x ++ encP l := rfl
    have hl := oneP_len x
    rw [e]
    cases i with
    | zero =>
      rw [List.getElem?_append_left (by omega), show 0 * 51 + k = k by omega, oneP_get x hk]
      rfl
    | succ i =>
      rw [List.getElem?_append_right (by omega), show (i + 1) * 51 + k - (oneP x).length = i * 51 + k by omega]
      exact ih (by simpa using h) hk
theorem pwV_one (f : Pw) (j : Nat) : (pwV f j).oneCell' = true := pkV_all _ _ _ _ _ _
theorem encP_one (F : List Pw) : ∀ u ∈ encP F, u.oneCell' = true := fun u hu => by
  obtain ⟨f, _, hu⟩ := List.mem_flatMap.1 hu
  obtain ⟨k, _, rfl⟩ := List.mem_map.1 hu
  exact pwV_one f k

/-- A row of them that is made by append. -/
def OwnP (B : Nat) (w : World) (v : Value) (F : List Pw) : Prop := w.ownsRow B 100 51 v F.length (encP F)
theorem OwnP.nil (B : Nat) (w : World) : OwnP B w (.slice none 0 0) [] := World.ownsRow_nil _ _ _ _
theorem OwnP.slice {B : Nat} {w : World} {v : Value} {F : List Pw} (h : OwnP B w v F) : ∃ a c, v = .slice a F.length c ∧ F.length ≤ c ∧ c ≤ maxLen := by
  rcases h.2 with ⟨h1, h2⟩ | ⟨g, cap, cur, h1, h2, h3, h4, h5, h6, h7⟩
  · exact ⟨none, 0, by rw [h1, h2], by omega, by unfold maxLen; omega⟩
  · exact ⟨_, cap, h1, h4, h5⟩
theorem OwnP.at {B : Nat} {w : World} {v : Value} {F : List Pw} (h : OwnP B w v F) {b : Nat} (hb : v.ownBlock = some b) : B ≤ b ∧ b < w.heap.size := by
  rcases h.2 with ⟨rfl, _⟩ | ⟨g, cap, cur, rfl, hB, hh, _⟩
  · simp [Value.ownBlock] at hb
  · have : g = b := by simpa [Value.ownBlock] using hb
    subst this
    exact ⟨hB, (Array.getElem?_eq_some_iff.1 hh).1⟩
theorem OwnP.kept {B : Nat} {w w' : World} {v : Value} {F : List Pw} (h : OwnP B w v F) (k : Below w.heap.size w w') : OwnP B w' v F := by
  refine ⟨h.1, ?_⟩
  rcases h.2 with h0 | ⟨g, cap, cur, e, hB, hh, r⟩
  · exact .inl h0
  · exact .inr ⟨g, cap, cur, e, hB, (k.block g (Array.getElem?_eq_some_iff.1 hh).1).trans hh, r⟩
/-- Its cells. -/
theorem OwnP.cells {B : Nat} {w : World} {a : Option Addr} {c : Nat} {F : List Pw} (h : OwnP B w (.slice a F.length c) F) {i : Nat} (hi : i < F.length) :
    ∃ g, a = some ⟨g, 0, none⟩ ∧ g < w.heap.size ∧ ∀ k, k < 51 → w.cell? ⟨g, i * 51 + k, none⟩ = some (pwV F[i] k) := by
  rcases h.2 with ⟨h1, h2⟩ | ⟨g, cap, cur, h1, h2, h3, h4, h5, h6, h7⟩
  · omega
  · injection h1 with e1 e2 e3
    refine ⟨g, e1, (Array.getElem?_eq_some_iff.1 h3).1, fun k hk => ?_⟩
    rw [cell_of_block h3, ← encP_get hi hk, ← h7, List.getElem?_take_of_lt (by omega), Array.getElem?_toList]
theorem infoP_q : ∃ i z, Tryz.prog.info? 100 = some i ∧ i.zero = some z ∧ z.cells.size = 51 ∧ i.size = 51 ∧ i.bytes = 168 := by
  have h : ((Tryz.prog.info? 100).bind fun i => i.zero.map fun z => (z.cells.size, i.size, i.bytes)) = some (51, 51, 168) := by kernel_rfl
  cases hi : Tryz.prog.info? 100 with
  | none => rw [hi] at h; cases h
  | some i =>
    rw [hi] at h
    simp only [Option.bind_some] at h
    cases hz : i.zero with
    | none => rw [hz] at h; cases h
    | some z =>
      rw [hz] at h
      simp only [Option.map_some, Option.some.injEq, Prod.mk.injEq] at h
      exact ⟨i, z, rfl, hz, h.1, h.2.1, h.2.2⟩
/-- Some are appended. -/
theorem wpList_push_p {ops : Array Oper} {rest : List Oper} {o : Oper} {a : Act} {Q : Exit → Act → World → Prop} (w : World) (hgd : o.guard = none) (s x : Operand)
    (ho : o.op = .call { callee := .builtin .append, args := #[s, x], argTypes := #[60, 60] })
    (B : Nat) (v : Value) (l : List Pw) (hs : a.eval s = v) (hown : OwnP B w v l) (g off m c : Nat) (hx : a.eval x = .slice (some ⟨g, off, none⟩) m c)
    (F : List Pw) (hm : F.length = m) (hc : ∀ i (h : i < F.length) k, k < 51 → w.cell? ⟨g, off + i * 51 + k, none⟩ = some (pwV F[i] k)) (hB : B ≤ w.heap.size) (hlen : l.length ≤ 1000000) (hlm : m ≤ 1000000)
    (h : ∀ v' w', Hid (OwnP B w' v' (l ++ F)) → Hid (w.grownBy w' v.ownBlock) → Hid (v'.ownBlock = v.ownBlock ∨ v'.ownBlock = some w.heap.size) → wpList Tryz.prog ops Q rest (a.put o.dst v') w') : wpList Tryz.prog ops Q (o :: rest) a w := by
  obtain ⟨i0, z, hi, hz0, hzs, hz1, hz2⟩ := infoP_q
  have hn : ∀ j u, (encP F)[j]? = some u → w.cell? ((⟨g, off, none⟩ : Addr).add j) = some u := fun j u hj => by
    have hjl : j < F.length * 51 := by
      have := (List.getElem?_eq_some_iff.1 hj).1
      rw [encP_len] at this
      exact this
    have hi2 : j / 51 < F.length := by omega
    have hk2 : j % 51 < 51 := Nat.mod_lt _ (by omega)
    have e : j / 51 * 51 + j % 51 = j := by omega
    have h1 := encP_get hi2 hk2
    rw [e, hj] at h1
    have h2 := hc (j / 51) hi2 (j % 51) hk2
    rw [addr_add, show off + j = off + j / 51 * 51 + j % 51 by omega, h2, Option.some.inj h1]
  refine wpList_append_own_at w hgd s x 60 ho B 100 i0 z 51 168 Tryz.underlying60 hi hz0 hz1 hz2 hzs (by decide) v l.length _ hs hown ⟨g, off, none⟩ m c (encP F) hx (by rw [encP_len, hm]) hn (encP_one F) (by unfold maxLen; omega) (by omega) hB ?_
  intro v' w' k1 k2 _ k5
  refine h v' w' ?_ k2 k5
  show OwnP B w' v' (l ++ F)
  unfold OwnP
  rw [List.length_append, encP_app, hm]
  exact k1

/-! A list of them, beside what is told of each. -/

def ApartP (v : Value) (f : Pw) : Prop := (f.p.sums ≠ [] → ∀ q, f.sa = some q → v.ownBlock ≠ some q.block) ∧ (f.p.data ≠ [] → ∀ q, f.da = some q → v.ownBlock ≠ some q.block)
structure PSt (w0 wr : World) (v : Value) (F : List Pw) : Prop where
  own : OwnP w0.heap.size wr v F
  below : Below w0.heap.size w0 wr
  pks : ∀ f ∈ F, PkAt wr f.p f.sa f.sc f.da f.dc ∧ ApartP v f
theorem PSt.later {w0 wr w' : World} {v : Value} {F : List Pw} (h : PSt w0 wr v F) (k : Below wr.heap.size wr w') : PSt w0 w' v F :=
  ⟨h.own.kept k, h.below.trans (k.mono h.below.size), fun f hf => ⟨(h.pks f hf).1.below k, (h.pks f hf).2⟩⟩
theorem PSt.push {w0 wr w' : World} {v v' : Value} {F G : List Pw} (h : PSt w0 wr v F) (hp : ∀ f ∈ G, PkAt wr f.p f.sa f.sc f.da f.dc ∧ ApartP v f)
    (ho : OwnP w0.heap.size w' v' (F ++ G)) (k : wr.grownBy w' v.ownBlock) (e : v'.ownBlock = v.ownBlock ∨ v'.ownBlock = some wr.heap.size) : PSt w0 w' v' (F ++ G) := by
  have hf : Fr (fun b => v.ownBlock = some b) wr w' := Fr.of_grown k fun b hb => hb
  have all : ∀ x ∈ F ++ G, PkAt wr x.p x.sa x.sc x.da x.dc ∧ ApartP v x := fun x hx => by
    rcases List.mem_append.1 hx with h1 | h1
    · exact h.pks x h1
    · exact hp x h1
  refine ⟨ho, h.below.trans (hf.below h.below.size fun j hj hv => ?_), fun x hx => ⟨?_, ?_⟩⟩
  · have := (h.own.at hv).1
    omega
  · exact (all x hx).1.apart2 hf (fun hn q hq hb => (all x hx).2.1 hn q hq hb) (fun hn q hq hb => (all x hx).2.2 hn q hq hb)
  · obtain ⟨k1, k2, k3⟩ := all x hx
    refine ⟨fun hn q hq hb => ?_, fun hn q hq hb => ?_⟩
    · rcases e with e | e
      · exact k2 hn q hq (e ▸ hb)
      · rcases k1.sums.here with h0 | ⟨b, off, e2, hlt, _⟩
        · exact hn h0
        · rw [e2] at hq
          cases hq
          rw [e] at hb
          have h9 : wr.heap.size = b := Option.some.inj hb
          omega
    · rcases e with e | e
      · exact k3 hn q hq (e ▸ hb)
      · have hlt := k1.data.blk q hq hn
        rw [e] at hb
        have := Option.some.inj hb
        omega
/-- The slice '.slice a l.length cap' reads as these packets. -/
structure PkSl (w : World) (a : Option Addr) (cap : Nat) (F : List Pw) : Prop where
  len : F.length ≤ cap
  most : cap ≤ maxLen
  here : F = [] ∨ ∃ b off, a = some ⟨b, off, none⟩ ∧ b < w.heap.size ∧ ∀ i (h : i < F.length) k, k < 51 → w.cell? ⟨b, off + i * 51 + k, none⟩ = some (pwV F[i] k)
  pks : ∀ f ∈ F, PkAt w f.p f.sa f.sc f.da f.dc
theorem PkSl.below {w w' : World} {a : Option Addr} {cap : Nat} {F : List Pw} (h : PkSl w a cap F) (k : Below w.heap.size w w') : PkSl w' a cap F :=
  ⟨h.len, h.most, by
    rcases h.here with e | ⟨b, off, e, hb, hc⟩
    · exact .inl e
    · exact .inr ⟨b, off, e, Nat.lt_of_lt_of_le hb k.size, fun i hi j hj => (k.cell (p := ⟨b, off + i * 51 + j, none⟩) hb).trans (hc i hi j hj)⟩, fun f hf => (h.pks f hf).below k⟩
theorem pks_one {w : World} {a : Option Addr} {cap : Nat} {F : List Pw} (h : PkSl w a cap F) {i : Nat} (hi : i < F.length) : ∃ b off, a = some ⟨b, off, none⟩ ∧ b < w.heap.size ∧ ∀ k, k < 51 → w.cell? ⟨b, off + i * 51 + k, none⟩ = some (pwV F[i] k) := by
  rcases h.here with rfl | ⟨b, off, e, hb, hc⟩
  · simp at hi
  · exact ⟨b, off, e, hb, hc i hi⟩
theorem PkSl.lt {w : World} {a : Option Addr} {cap : Nat} {F : List Pw} (h : PkSl w a cap F) : F.length ≤ 9223372036854775807 := by
  have h1 := h.len; have h2 := h.most; unfold maxLen at h2; omega
theorem PSt.sl {w0 wr : World} {a : Option Addr} {c : Nat} {F : List Pw} (h : PSt w0 wr (.slice a F.length c) F) : PkSl wr a c F := by
  obtain ⟨a', c', e, h1, h2⟩ := h.own.slice
  cases e
  refine ⟨h1, h2, ?_, fun f hf => (h.pks f hf).1⟩
  cases F with
  | nil => exact .inl rfl
  | cons x l =>
    right
    obtain ⟨g, e, hg, _⟩ := h.own.cells (i := 0) (by simp)
    refine ⟨g, 0, e, hg, fun i hi k hk => ?_⟩
    obtain ⟨g', e', _, hc⟩ := h.own.cells hi
    rw [e] at e'
    cases e'
    rw [Nat.zero_add]
    exact hc k hk
end Go.Proofs.YtfgaohilpbocbaaGreatDoor
end

section
namespace Go.Proofs.YtfgaohilpbocbaaGreatDoor
open Go.ChangeShapes Go.WideShapes Go.ChangeAt Go.RowKit Go.Joins
set_option linter.unusedVariables false

def oneS (x : Sm) : List Value := (List.range 34).map (smV x)
def encS (F : List Sm) : List Value := F.flatMap oneS
theorem oneS_len (f : Sm) : (oneS f).length = 34 := by simp [oneS]
theorem oneS_get (f : Sm) {k : Nat} (hk : k < 34) : (oneS f)[k]? = some (smV f k) := by
  unfold oneS
  rw [List.getElem?_map, List.getElem?_range hk]
  rfl
theorem encS_len : ∀ F : List Sm, (encS F).length = F.length * 34
  | [] => rfl
  | x :: l => by
    have := encS_len l
    unfold encS at this ⊢
    simp only [List.flatMap_cons, List.length_append, this, List.length_cons, oneS_len]
    omega
theorem encS_app (l m : List Sm) : encS (l ++ m) = encS l ++ encS m := by simp [encS]
theorem encS_get {l : List Sm} : ∀ {i : Nat} (h : i < l.length) {k : Nat} (hk : k < 34), (encS l)[i * 34 + k]? = some (smV l[i] k) := by
  induction l with
  | nil => intro i h; simp at h
  | cons x l ih =>
    intro i h k hk
    have e : encS (x :: l) = oneS x ++ encS l := rfl
    have hl := oneS_len x
    rw [e]
    cases i with
    | zero =>
      rw [List.getElem?_append_left (by omega), show 0 * 34 + k = k by omega, oneS_get x hk]
      rfl
    | succ i =>
      rw [List.getElem?_append_right (by omega), show (i + 1) * 34 + k - (oneS x).length = i * 34 + k by omega]
      exact ih (by simpa using h) hk
theorem smV_one (f : Sm) (j : Nat) : (smV f j).oneCell' = true := by
  unfold smV
  (repeat' split) <;> rfl
theorem encS_one (F : List Sm) : ∀ u ∈ encS F, u.oneCell' = true := fun u hu => by
  obtain ⟨f, _, hu⟩ := List.mem_flatMap.1 hu
  obtain ⟨k, _, rfl⟩ := List.mem_map.1 hu
  exact smV_one f k
def OwnS (B : Nat) (w : World) (v : Value) (F : List Sm) : Prop := w.ownsRow B 52 34 v F.length (encS F)
theorem OwnS.nil (B : Nat) (w : World) : OwnS B w (.slice none 0 0) [] := World.ownsRow_nil _ _ _ _
theorem OwnS.slice {B : Nat} {w : World} {v : Value} {F : List Sm} (h : OwnS B w v F) : ∃ a c, v = .slice a F.length c ∧ F.length ≤ c ∧ c ≤ maxLen := by
  rcases h.2 with ⟨h1, h2⟩ | ⟨g, cap, cur, h1, h2, h3, h4, h5, h6, h7⟩
  · exact ⟨none, 0, by rw [h1, h2], by omega, by unfold maxLen; omega⟩
  · exact ⟨_, cap, h1, h4, h5⟩
theorem OwnS.at {B : Nat} {w : World} {v : Value} {F : List Sm} (h : OwnS B w v F) {b : Nat} (hb : v.ownBlock = some b) : B ≤ b ∧ b < w.heap.size := by
  rcases h.2 with ⟨rfl, _⟩ | ⟨g, cap, cur, rfl, hB, hh, _⟩
  · simp [Value.ownBlock] at hb
  · have : g = b := by simpa [Value.ownBlock] using hb
    subst this
    exact ⟨hB, (Array.getElem?_eq_some_iff.1 hh).1⟩
theorem OwnS.kept {B : Nat} {w w' : World} {v : Value} {F : List Sm} (h : OwnS B w v F) (k : Below w.heap.size w w') : OwnS B w' v F := by
  refine ⟨h.1, ?_⟩
  rcases h.2 with h0 | ⟨g, cap, cur, e, hB, hh, r⟩
  · exact .inl h0
  · exact .inr ⟨g, cap, cur, e, hB, (k.block g (Array.getElem?_eq_some_iff.1 hh).1).trans hh, r⟩
theorem smAt_of {w : World} {g off : Nat} {x : Sm} (hx : SmOk x) (h : ∀ k, k < 34 → w.cell? ⟨g, off + k, none⟩ = some (smV x k)) : SmAt w g off x := by
  refine ⟨by rw [← Nat.add_zero off, h 0 (by omega)]; rfl, by rw [h 1 (by omega)]; rfl, fun i hi => ?_⟩
  rw [hx.2.2.1] at hi
  rw [show off + 2 + i = off + (2 + i) by omega, h (2 + i) (by omega)]
  unfold smV
  rw [if_neg (by omega), if_neg (by omega), show 2 + i - 2 = i by omega, vOf_eq _ _ (by rw [hx.2.2.1]; exact hi)]
theorem OwnS.sms {B : Nat} {w : World} {a : Option Addr} {c : Nat} {F : List Sm} (h : OwnS B w (.slice a F.length c) F) (hr : ∀ x ∈ F, SmOk x) : Sms w a c F := by
  rcases h.2 with ⟨h1, h2⟩ | ⟨g, cap, cur, h1, h2, h3, h4, h5, h6, h7⟩
  · obtain ⟨a', c', e, h1', h2'⟩ := h.slice
    cases e
    exact ⟨hr, h1', h2', .inl (List.length_eq_zero_iff.1 h2)⟩
  · injection h1 with e1 e2 e3
    subst e3
    refine ⟨hr, h4, h5, .inr ⟨g, 0, e1, (Array.getElem?_eq_some_iff.1 h3).1, fun i hi => smAt_of (hr _ (List.getElem_mem hi)) fun k hk => ?_⟩⟩
    rw [cell_of_block h3, show 0 + i * 34 + k = i * 34 + k by omega, ← encS_get hi hk, ← h7, List.getElem?_take_of_lt (by omega), Array.getElem?_toList]
theorem infoS_q : ∃ i z, Tryz.prog.info? 52 = some i ∧ i.zero = some z ∧ z.cells.size = 34 ∧ i.size = 34 ∧ i.bytes = 48 := by
  have h : ((Tryz.prog.info? 52).bind fun i => i.zero.map fun z => (z.cells.size, i.size, i.bytes)) = some (34, 34, 48) := by kernel_rfl
  cases hi : Tryz.prog.info? 52 with
  | none => rw [hi] at h; cases h
  | some i =>
    rw [hi] at h
    simp only [Option.bind_some] at h
    cases hz : i.zero with
    | none => rw [hz] at h; cases h
    | some z =>
      rw [hz] at h
      simp only [Option.map_some, Option.some.injEq, Prod.mk.injEq] at h
      exact ⟨i, z, rfl, hz, h.1, h.2.1, h.2.2⟩
theorem encS_cells {w : World} {g off : Nat} {F : List Sm} (hc : ∀ i (h : i < F.length) k, k < 34 → w.cell? ⟨g, off + i * 34 + k, none⟩ = some (smV F[i] k)) : ∀ j u, (encS F)[j]? = some u → w.cell? ((⟨g, off, none⟩ : Addr).add j) = some u := fun j u hj => by
  have hjl : j < F.length * 34 := by
    have := (List.getElem?_eq_some_iff.1 hj).1
    rw [encS_len] at this
    exact this
  have hi2 : j / 34 < F.length := by omega
  have hk2 : j % 34 < 34 := Nat.mod_lt _ (by omega)
  have e : j / 34 * 34 + j % 34 = j := by omega
  have h1 := encS_get hi2 hk2
  rw [e, hj] at h1
  have h2 := hc (j / 34) hi2 (j % 34) hk2
  rw [addr_add, show off + j = off + j / 34 * 34 + j % 34 by omega, h2, Option.some.inj h1]
theorem Sms.enc {w : World} {ad : Addr} {c : Nat} {F : List Sm} (h : Sms w (some ad) c F) : ∀ j u, (encS F)[j]? = some u → w.cell? (ad.add j) = some u := by
  rcases h.here with rfl | ⟨b, off, e, _, hc⟩
  · intro j u hj; simp [encS] at hj
  · cases e
    exact encS_cells fun i hi k hk => smAt_cells (hc i hi) (h.rng _ (List.getElem_mem hi)) k hk
/-- Those of a slice that is read are appended. -/
theorem wpList_push_s {ops : Array Oper} {rest : List Oper} {o : Oper} {a : Act} {Q : Exit → Act → World → Prop} (w : World) (hgd : o.guard = none) (s x : Operand)
    (ho : o.op = .call { callee := .builtin .append, args := #[s, x], argTypes := #[28, 28] })
    (B : Nat) (v : Value) (l : List Sm) (hs : a.eval s = v) (hown : OwnS B w v l) (ad : Addr) (m c : Nat) (hx : a.eval x = .slice (some ad) m c)
    (F : List Sm) (hm : F.length = m) (hn : ∀ j u, (encS F)[j]? = some u → w.cell? (ad.add j) = some u) (hB : B ≤ w.heap.size) (hlen : l.length ≤ 1000000) (hlm : m ≤ 1000000)
    (h : ∀ v' w', Hid (OwnS B w' v' (l ++ F)) → Hid (w.grownBy w' v.ownBlock) → Hid (v'.ownBlock = v.ownBlock ∨ v'.ownBlock = some w.heap.size) → wpList Tryz.prog ops Q rest (a.put o.dst v') w') : wpList Tryz.prog ops Q (o :: rest) a w := by
  obtain ⟨i0, z, hi, hz0, hzs, hz1, hz2⟩ := infoS_q
  refine wpList_append_own_at w hgd s x 28 ho B 52 i0 z 34 48 Tryz.underlying28 hi hz0 hz1 hz2 hzs (by decide) v l.length _ hs hown ad m c (encS F) hx (by rw [encS_len, hm]) hn (encS_one F) (by unfold maxLen; omega) (by omega) hB ?_
  intro v' w' k1 k2 _ k5
  refine h v' w' ?_ k2 k5
  show OwnS B w' v' (l ++ F)
  unfold OwnS
  rw [List.length_append, encS_app, hm]
  exact k1
theorem eqSm_no (w : World) : (binOp BinOp.eql 28 (.slice none 0 0) (.slice none 0 0)).run Tryz.prog w = .ok (.bool true) w := by kernel_rfl
theorem eqSm_yes (ad : Addr) (n cap : Nat) (w : World) : (binOp BinOp.eql 28 (.slice (some ad) n cap) (.slice none 0 0)).run Tryz.prog w = .ok (.bool false) w := by kernel_rfl
set_option maxRecDepth 1000000 in
set_option maxHeartbeats 1000000 in
theorem cloneSm_any (a : Option Addr) (cap : Nat) (l : List Sm) (w : World) (hl : l.length ≤ 100000) (hs : Sms w a cap l) (hn : a = none → cap = 0) :
    Calls Tryz.prog 107 #[.slice a l.length cap] w fun e w' => ∃ sa sc, e = .returned (.slice sa l.length sc) ∧ Sms w' sa sc l ∧ (∀ q, sa = some q → w.heap.size ≤ q.block) ∧ Below w.heap.size w w' := by
  cases a with
  | none =>
    have e0 : l = [] := by
      rcases hs.here with h | ⟨b, off, h, _⟩
      · exact h
      · cases h
    subst e0
    obtain rfl := hn rfl
    have hq := eqSm_no w
    have HR := Lib.hid hs
    clear hs
    go_enter Tryz.func107, Tryz.ntmps107
    go_wp2_with fail
    go_ret
    exact ⟨none, 0, rfl, HR.out, fun q h => (by cases h), Below.refl _ _⟩
  | some ad =>
    have hq := eqSm_yes ad l.length cap w
    have hlm := hs.lt
    have hcm : cap ≤ 9223372036854775807 := by have := hs.most; unfold maxLen at this; omega
    have HB : Hid (Below w.heap.size w (w.alloc (.cells #[] 52))) := (Below.refl _ _).alloc (Nat.le_refl _) _
    have HS := Lib.hid (hs.below HB.out)
    have HG : Hid (OwnS w.heap.size (w.alloc (.cells #[] 52)) (.slice (some ⟨w.heap.size, 0, none⟩) 0 0) []) :=
      ⟨rfl, .inr ⟨w.heap.size, 0, #[], rfl, Nat.le_refl _, heap_alloc_last w _, Nat.le_refl _, by unfold maxLen; omega, rfl, rfl⟩⟩
    obtain ⟨B, hB⟩ : ∃ B, B = w.heap.size := ⟨_, rfl⟩
    have hBs : B ≤ (w.alloc (.cells #[] 52)).heap.size := by rw [hB]; exact HB.out.size
    have HE := Lib.hid HS.out.enc
    have HSO := Lib.hid hs.rng
    clear hs
    rw [← hB] at HG
    go_enter Tryz.func107, Tryz.ntmps107
    go_upto_region 3 with fail
    go_wp2_with (at_builtin; refine wpList_push_s _ rfl _ _ rfl B (.slice (some ⟨B, 0, none⟩) 0 0) [] (by rw [hB]; rfl) HG.out ad l.length cap rfl l rfl HE.out hBs (by simp) (by omega) ?_; intro v2 w2 HO2 HG2 HV2)
    have hO3 : OwnS B w2 v2 l := HO2.out
    have hbw : Below w.heap.size w w2 := HB.out.grown HG2.out HB.out.size (fun k hk => by
      have : B = k := by simpa [Value.ownBlock] using hk
      omega)
    obtain ⟨a', c', rfl, _, _⟩ := hO3.slice
    have hq : ∀ q, a' = some q → w.heap.size ≤ q.block := fun q e => by
      subst e
      exact hB ▸ (hO3.at (b := q.block) rfl).1
    have HF := Lib.hid (And.intro (hO3.sms HSO.out) (And.intro hq hbw))
    clear hO3 hbw hq
    go_ret
    exact ⟨a', c', rfl, HF.out.1, HF.out.2.1, HF.out.2.2⟩
end Go.Proofs.YtfgaohilpbocbaaGreatDoor
end

section
namespace Go.Proofs.YtfgaohilpbocbaaGreatDoor
open Go.ChangeShapes Go.WideShapes Go.ChangeAt Go.RowKit Go.Joins
set_option linter.unusedVariables false

def z8 : List Nat := List.replicate 8 0
def mainP (S : St) : Pk := ⟨z8, 1, S.slice, S.files.length, S.slices.length, 0, zFil, [], 0, []⟩
def fileP (i : Nat) (f : Fil) : Pk := ⟨z8, 2, 0, 0, 0, i, f, [], 0, []⟩
def sumsP (i : Nat) (l : List Sm) : Pk := ⟨z8, 3, 0, 0, 0, i, zFil, l, 0, []⟩
/-- What is known of file k's slices. -/
def partS (S : St) (k : Nat) : List Sm := (S.slices.drop (S.files.getD k zFil).first.toNat).take (cntN (S.files.getD k zFil).size S.slice)
/-- The directory of the first k files. -/
def dirTo (S : St) : Nat → List Pk
  | 0 => [mainP S]
  | k + 1 => dirTo S k ++ [fileP k (S.files.getD k zFil), sumsP k (partS S k)]
theorem dirTo_len (S : St) : ∀ k, (dirTo S k).length = 2 * k + 1
  | 0 => rfl
  | k + 1 => by rw [dirTo, List.length_append, dirTo_len S k]; simp; omega
theorem built_main (s f n : Int) : Tryz.prog.built 100 [(1, .int .i64 1), (2, .int .i64 s), (3, .int .i64 f), (4, .int .i64 n)] = some (rowArr 51 (pkV ⟨z8, 1, s, f, n, 0, zFil, [], 0, []⟩ none 0 none 0)) := by kernel_rfl
theorem built_file (i : Int) (V : Nat → Value) : Tryz.prog.built 100 [(1, .int .i64 2), (5, .int .i64 i), (6, .agg (rowArr 35 V))] = some (rowArr 51 fun j => if 13 ≤ j ∧ j < 48 then V (j - 13) else pkV ⟨z8, 2, 0, 0, 0, i, zFil, [], 0, []⟩ none 0 none 0 j) := by kernel_rfl
theorem built_sums (i : Int) (sa : Option Addr) (n sc : Nat) : Tryz.prog.built 100 [(1, .int .i64 3), (5, .int .i64 i), (7, .slice sa n sc)] = some (rowArr 51 fun j => if j = 48 then .slice sa n sc else pkV ⟨z8, 3, 0, 0, 0, i, zFil, [], 0, []⟩ none 0 none 0 j) := by kernel_rfl
theorem builtS_one (V : Nat → Value) : Tryz.prog.builtSlice 100 1 [(0, .agg (rowArr 51 V))] = some (rowArr 51 V) := by kernel_rfl
theorem builtS_two (V U : Nat → Value) : Tryz.prog.builtSlice 100 2 [(0, .agg (rowArr 51 V)), (1, .agg (rowArr 51 U))] = some (rowArr 102 fun j => if j < 51 then V j else U (j - 51)) := by kernel_rfl
theorem rowArr_congr {n : Nat} {F G : Nat → Value} (h : ∀ j, j < n → F j = G j) : rowArr n F = rowArr n G := by
  unfold rowArr
  congr 1
  exact List.map_congr_left fun j hj => h j (List.mem_range.1 hj)
theorem built_file2 (i : Nat) (f : Fil) : Tryz.prog.built 100 [(1, .int .i64 2), (5, .int .i64 (i : Int)), (6, .agg (rowArr 35 (filV f)))] = some (rowArr 51 (pkV (fileP i f) none 0 none 0)) := by
  rw [built_file]
  refine congrArg some (rowArr_congr fun j hj => ?_)
  by_cases h : 13 ≤ j ∧ j < 48
  · rw [if_pos h, pkV_fil _ _ _ _ _ h.1 h.2]; rfl
  · rw [if_neg h]
    unfold pkV fileP
    by_cases h1 : j < 13
    · (repeat' split) <;> first | rfl | omega
    · (repeat' split) <;> first | rfl | omega
theorem built_sums2 (i : Nat) (l : List Sm) (sa : Option Addr) (sc : Nat) : Tryz.prog.built 100 [(1, .int .i64 3), (5, .int .i64 (i : Int)), (7, .slice sa l.length sc)] = some (rowArr 51 (pkV (sumsP i l) sa sc none 0)) := by
  rw [built_sums]
  refine congrArg some (rowArr_congr fun j hj => ?_)
  by_cases h : j = 48
  · subst h; rfl
  · rw [if_neg h]
    unfold pkV sumsP
    (repeat' split) <;> first | rfl | omega
/-- Operations of statements that leave their order open. -/
theorem op_build {o : Oper} {a : Act} {w : World} {K : Act → World → Prop} {Q : Exit → Act → World → Prop} (t : TypeId) (parts : Array (Nat × Operand)) (ho : o.op = .build t parts)
    (cells : Array Value) (he : Tryz.prog.built t (parts.map fun (i, x) => (i, a.eval x)).toList = some cells) (h : K (a.put o.dst (.agg cells)) w) : o.wp Tryz.prog a w K Q :=
  wp_build t parts ho (by rw [he]; rfl) (by rw [he]; exact h)
theorem op_push_p {o : Oper} {a : Act} {K : Act → World → Prop} {Q : Exit → Act → World → Prop} (w : World) (s x : Operand)
    (ho : o.op = .call { callee := .builtin .append, args := #[s, x], argTypes := #[60, 60] })
    (B : Nat) (v : Value) (l : List Pw) (hs : a.eval s = v) (hown : OwnP B w v l) (g off m c : Nat) (hx : a.eval x = .slice (some ⟨g, off, none⟩) m c)
    (F : List Pw) (hm : F.length = m) (hc : ∀ i (h : i < F.length) k, k < 51 → w.cell? ⟨g, off + i * 51 + k, none⟩ = some (pwV F[i] k)) (hB : B ≤ w.heap.size) (hlen : l.length ≤ 1000000) (hlm : m ≤ 1000000)
    (h : ∀ v' w', Hid (OwnP B w' v' (l ++ F)) → Hid (w.grownBy w' v.ownBlock) → Hid (v'.ownBlock = v.ownBlock ∨ v'.ownBlock = some w.heap.size) → K (a.put o.dst v') w') : o.wp Tryz.prog a w K Q := by
  obtain ⟨i0, z, hi, hz0, hzs, hz1, hz2⟩ := infoP_q
  have hn : ∀ j u, (encP F)[j]? = some u → w.cell? ((⟨g, off, none⟩ : Addr).add j) = some u := fun j u hj => by
    have hjl : j < F.length * 51 := by
      have := (List.getElem?_eq_some_iff.1 hj).1
      rw [encP_len] at this
      exact this
    have hi2 : j / 51 < F.length := by omega
    have hk2 : j % 51 < 51 := Nat.mod_lt _ (by omega)
    have e : j / 51 * 51 + j % 51 = j := by omega
    have h1 := encP_get hi2 hk2
    rw [e, hj] at h1
    have h2 := hc (j / 51) hi2 (j % 51) hk2
    rw [addr_add, show off + j = off + j / 51 * 51 + j % 51 by omega, h2, Option.some.inj h1]
  obtain ⟨v', w', hr, k1, k2, _, k5⟩ := run_append_own_at (P := Tryz.prog) w B 60 o.type 100 i0 z 51 168 Tryz.underlying60 hi hz0 hz1 hz2 hzs (by decide) v l.length _ hown ⟨g, off, none⟩ m c (encP F) (by rw [encP_len, hm]) hn (encP_one F) (by unfold maxLen; omega) (by omega) hB
  unfold Oper.wp execOp
  simp only [ho, resolve, invoke, builtin, Sem.run_bind, Sem.run_pure, Result.andThen_ok, List.map_toArray, List.map_cons, List.map_nil, hs, hx, hr]
  refine h _ _ ?_ k2 k5
  show OwnP B w' v' (l ++ F)
  unfold OwnP
  rw [List.length_append, encP_app, hm]
  exact k1
end Go.Proofs.YtfgaohilpbocbaaGreatDoor
end
