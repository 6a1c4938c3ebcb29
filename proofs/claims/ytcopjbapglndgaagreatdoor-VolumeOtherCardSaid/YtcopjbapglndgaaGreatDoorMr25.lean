/-
  Package encode's fill and sum.
  Package encode's Symbol and Symbols.
  Packets' bytes: how many, and that they are bytes.
  What volume's Index and Make promise, as contracts.
  Index of volume, walked.
  Whether sources are a set's slices: volume.own.
  Package encode's Symbols: each symbol lies in a block of bytes of its own.
-/
import Derived.Test.YtcopjbapglndgaaGreatDoorMr24
section
namespace Go.Proofs.YtcopjbapglndgaaGreatDoor
open Go.ChangeShapes Go.WideShapes Go.ChangeAt Go.RowKit Go.Joins
set_option linter.unusedVariables false

def EFillPost (ls : Rws) (m : Nat) (w : World) (e : Ending) (w' : World) : Prop :=
  Below w.heap.size w w' ∧ ((goodB ls m = true ∧ ∃ g, e = .returned (.tuple #[.slice (some ⟨g, 0, none⟩) ls.length ls.length, .int .i64 0]) ∧ Rs w'.heap.size w' (some ⟨g, 0, none⟩) ls.length (pads ls m)) ∨ (goodB ls m = false ∧ e = .returned (.tuple #[.slice none 0 0, .int .i64 3])))

set_option maxRecDepth 100000 in
set_option maxHeartbeats 2000000 in
theorem efill_any (a : Option Addr) (cap : Nat) (src : Rws) (m : Nat) (w : World) (hs : Rs w.heap.size w a cap src) (h1 : 1 ≤ src.length) (h64 : src.length ≤ 64) (hm1 : 1 ≤ m) (hm2 : m ≤ 256) :
    Calls Tryz.prog 50 #[.slice a src.length cap, .int .i64 (m : Int)] w (EFillPost src m w) := by
  have HS := Lib.hid hs
  have HBY := Lib.hid hs.byte
  obtain ⟨n, hn⟩ : ∃ n, src.length = n := ⟨_, rfl⟩
  have HN := Lib.hid hn
  have HE : Hid (∀ w', Below w.heap.size w w' → goodB src m = true → Rs w'.heap.size w' (some ⟨w.heap.size, 0, none⟩) n (pads src m) → EFillPost src m w (.returned (.tuple #[.slice (some ⟨w.heap.size, 0, none⟩) n n, .int .i64 0])) w') := fun w' hb hg hr => by
    refine ⟨hb, .inl ⟨hg, w.heap.size, by rw [hn], by rw [hn]; exact hr⟩⟩
  rw [hn] at h1 h64 ⊢
  have hmk := make_grid n (by omega) w
  have HF0 := Lib.hid (FullAt.start w src m n)
  have HMK : Hid (∀ w, (Instr.makeSlice 35 (.int .i64 (m : Int)) (.int .i64 (m : Int))).run Tryz.prog w = .ok (.slice (some ⟨w.heap.size, 0, none⟩) m m) (w.alloc (.cells (rowArr m zV) 5))) := make_row m (by omega)
  have d1 : ¬ ((m : Int) < 1) := by omega
  have d2 : ¬ ((256 : Int) < (m : Int)) := by omega
  have d3 : ¬ ((n : Int) < 1) := by omega
  have d4 : ¬ ((64 : Int) < (n : Int)) := by omega
  clear hs hn
  go_enter Tryz.func50, Tryz.ntmps50
  go_wp2_with fail
  clear hmk
  go_loopw [28] (fun i wr => ∃ (j : Nat) (ls : Rws), j ≤ n ∧ i = .int .i64 j ∧ Hid (FullAt w src m n j ls wr)) (fun i _ => n - (intOf i).toNat)
  case atStart => exact ⟨0, _, by omega, rfl, HF0⟩
  case round =>
    obtain ⟨j, ls, hj, rfl, HF⟩ := hrel
    by_cases hlt : j < n
    · have hjs : j < src.length := by rw [HN.out]; exact hlt
      have HRS := Lib.hid (HS.out.keep (Nat.le_refl _) (Keep.of_below HF.out.below))
      obtain ⟨b, off, rfl, hb, hrr⟩ := HRS.out.some hjs
      obtain ⟨ai, ci, hck, hrw⟩ := hrr j hjs
      have HRW := Lib.hid hrw
      have i1 : (0 : Int) ≤ (j : Int) := by omega
      have i2 : (j : Int) < (n : Int) := by omega
      by_cases hlong : m < src[j].length
      · have HBAD : Hid (goodB src m = false) := by
          show _ = _
          rw [Bool.eq_false_iff]
          intro h
          have := goodB_iff.1 h _ (List.getElem_mem hjs)
          omega
        have HBL := Lib.hid HF.out.below
        generalize src[j] = x at *
        have dl : (m : Int) < (x.length : Int) := by omega
        clear hrr hrw
        go_wp2_with fail
        go_ret2
        exact ⟨HBL.out, .inr ⟨HBAD.out, rfl⟩⟩
      · have dl : ¬ (m : Int) < (src[j].length : Int) := by omega
        have hmk := HMK.out wr
        have HNX : Hid (∀ (a1 w' : World), Below wr.heap.size wr a1 → w'.heap[w.heap.size]? = (a1.setCell ⟨w.heap.size, j, none⟩ (.slice (some ⟨wr.heap.size, 0, none⟩) m m)).heap[w.heap.size]? → Keep w.heap.size wr w' → w'.heap[wr.heap.size]? = some (.cells (rowArr m (vOf (fillN src[j] m))) 5 (0, 0)) → ∃ ls', FullAt w src m n (j + 1) ls' w') := fun a1 w' k1 e hk hg => ⟨_, HF.out.next hjs HN.out (by omega) (HBY.out _ (List.getElem_mem hjs)) (by omega) k1 e hk hg⟩
        generalize src[j] = x at *
        have hjl : j < ls.length := by rw [HF.out.len]; exact hlt
        have hb1 : Below wr.heap.size wr (wr.alloc (.cells (rowArr m zV) 5)) := (Below.refl _ _).alloc (Nat.le_refl _) _
        have hg1 := HF.out.grid.below hb1
        have HLT := Lib.hid HF.out.grid.lt
        have HLOW := Lib.hid HF.out.below.size
        obtain ⟨ca, cc, hcell, _⟩ := hg1.cell hjl
        have hlo := hg1.loose j
        have HK1 : Hid (Keep w.heap.size wr ((wr.alloc (.cells (rowArr m zV) 5)).setCell ⟨w.heap.size, j, none⟩ (.slice (some ⟨wr.heap.size, 0, none⟩) m m))) := (Keep.of_below hb1).set (p := ⟨w.heap.size, j, none⟩) hg1.other _
        have HB1 := Lib.hid hb1
        have HG : Hid (((wr.alloc (.cells (rowArr m zV) 5)).setCell ⟨w.heap.size, j, none⟩ (.slice (some ⟨wr.heap.size, 0, none⟩) m m)).heap[wr.heap.size]? = some (.cells (rowArr m zV).toList.toArray 5 (0, 0))) := by
          show _ = _
          rw [grid_new_heap _ _ _ _ (by have := HLT.out; show w.heap.size ≠ wr.heap.size; omega), Array.toArray_toList]; exact heap_alloc_new wr _
        have HCL : Hid (((x.take m).map byteV).length = Nat.min x.length m) := by show _ = min x.length m; simp; omega
        have HPOS : Hid (0 < ((x.take m).map byteV).length → (some (⟨wr.heap.size, 0, none⟩ : Addr)) = some ⟨wr.heap.size, 0, none⟩ ∧ ∃ ad, ai = some ad ∧ ∀ j' v, ((x.take m).map byteV)[j']? = some v → ((wr.alloc (.cells (rowArr m zV) 5)).setCell ⟨w.heap.size, j, none⟩ (.slice (some ⟨wr.heap.size, 0, none⟩) m m)).cell? (ad.add j') = some v) :=
          fun h0 => ⟨rfl, src_cells (HRW.out.keep HK1.out).sl m h0⟩
        have HFIT : Hid (0 + ((x.take m).map byteV).length ≤ (rowArr m zV).toList.length) := by show _ ≤ _; simp [rowArr]; omega
        have H1C : Hid (∀ v ∈ (x.take m).map byteV, v.oneCell' = true) := bytes_one
        have HR := Lib.hid (fill_row x m)
        have hxl := HRW.out.sl.lt
        generalize (x.take m).map byteV = cs at *
        clear hrr hrw hb1 hg1
        obtain ⟨W1, hW1⟩ : ∃ W1, W1 = (wr.alloc (.cells (rowArr m zV) 5)).setCell ⟨w.heap.size, j, none⟩ (.slice (some ⟨wr.heap.size, 0, none⟩) m m) := ⟨_, rfl⟩
        go_wp2_with ((with_reducible refine wpList_copy_splice rfl (.tmp 45) (.tmp 46) 35 35 rfl 5 Tryz.underlying35 (by kernel_rfl) (some ⟨wr.heap.size, 0, none⟩) ai m m x.length ci rfl rfl wr.heap.size 0 (rowArr m zV).toList 5 HG.out cs HCL.out HPOS.out HFIT.out H1C.out wr.heap.size _ (Below.refl _ _) (Nat.le_refl _) ?_); intro w2 HW2 b2)
        obtain ⟨ls', hf'⟩ := HNX.out _ w2 HB1.out (b2.block _ HLT.out) (HK1.out.over b2) (by rw [HW2.out, HR.out])
        have HF2 := Lib.hid hf'
        clear hf' HW2 b2 HNX HG HPOS HK1 HB1 HFIT H1C HR HCL hmk hcell hlo hck
        go_roundw
        case rel => exact ⟨j + 1, ls', by omega, by go_num, HF2⟩
        case measure => simp [intOf]; omega
    · obtain rfl : n = j := by omega
      have hfe := HF.out.all HN.out
      subst hfe
      have HGOOD : Hid (goodB src m = true) := goodB_iff.2 fun x hx => by
        obtain ⟨i, hi, rfl⟩ := List.getElem_of_mem hx
        exact HF.out.short i hi (by rw [← HN.out]; exact hi)
      have HRS := Lib.hid (HF.out.grid.rs (by rw [HF.out.len]; omega))
      rw [HF.out.len] at HRS
      have HFB := Lib.hid HF.out.below
      clear HF
      go_wp2_with fail
      go_ret2
      exact HE.out _ HFB.out HGOOD.out HRS.out

theorem efill_out (a : Option Addr) (cap n : Nat) (hn : n ≤ 1000) (m : Int) (q : Int) (h : ((m < 1 ∨ 256 < m) ∧ q = 1) ∨ (1 ≤ m ∧ m ≤ 256 ∧ (n < 1 ∨ 64 < n) ∧ q = 5)) (w : World) :
    Calls Tryz.prog 50 #[.slice a n cap, .int .i64 m] w fun e w' => e = .returned (.tuple #[.slice none 0 0, .int .i64 q]) ∧ w = w' := by
  rcases h with ⟨h | h, rfl⟩ | ⟨h1, h2, h | h, rfl⟩
  · go_enter Tryz.func50, Tryz.ntmps50
    go_wp2
    go_ret2
    exact ⟨rfl, rfl⟩
  · have d : ¬ m < 1 := by omega
    go_enter Tryz.func50, Tryz.ntmps50
    go_wp2
    go_ret2
    exact ⟨rfl, rfl⟩
  · have d1 : ¬ m < 1 := by omega
    have d2 : ¬ 256 < m := by omega
    have d3 : (n : Int) < 1 := by omega
    go_enter Tryz.func50, Tryz.ntmps50
    go_wp2
    go_ret2
    exact ⟨rfl, rfl⟩
  · have d1 : ¬ m < 1 := by omega
    have d2 : ¬ 256 < m := by omega
    have d3 : ¬ (n : Int) < 1 := by omega
    have d4 : (64 : Int) < (n : Int) := by omega
    go_enter Tryz.func50, Tryz.ntmps50
    go_wp2
    go_ret2
    exact ⟨rfl, rfl⟩


def EsPost (l : List Nat) (m : Nat) (w : World) (e : Ending) (w' : World) : Prop :=
  ∃ g, e = .returned (.slice (some ⟨g, 0, none⟩) m m) ∧ Rw 0 w' (some ⟨g, 0, none⟩) m l ∧ Below w.heap.size w w'

set_option maxRecDepth 100000 in
set_option maxHeartbeats 1000000 in
theorem esum_any (g n : Nat) (v : Rws) (m id : Nat) (w : World) (hs : Rs w.heap.size w (some ⟨g, 0, none⟩) n v) (hn : v.length = n) (h1 : 1 ≤ n) (h64 : n ≤ 64) (hm : m ≤ 256) (hid : id < 4294967296) (hall : ∀ x ∈ v, x.length = m) :
    Calls Tryz.prog 51 #[.slice (some ⟨g, 0, none⟩) n n, .int .i64 (m : Int), .int .u32 (id : Int)] w (EsPost (symTo v m (rowN n id) n) m w) := by
  have HS := Lib.hid hs
  have HN := Lib.hid hn
  have HAL := Lib.hid hall
  have hro := rowN_ok n id
  have HOF := Lib.hid (of_any n id h1 h64 hid)
  have HRL := Lib.hid hro.1
  have HRB := Lib.hid hro.2
  have HE : Hid (celTo v m (cellsTo (rowN n id) n) = symTo v m (rowN n id) n) := cel_sym hall hs.byte n (by omega)
  rw [← HE.out]
  have hPL : (cellsTo (rowN n id) n).length ≤ 64 := Nat.le_trans (cellsTo_len _ _) h64
  have HPM : Hid (∀ p ∈ cellsTo (rowN n id) n, p.1 < n ∧ p.2 < 256) := fun p hp => ⟨(cellsTo_mem hp).1, by rw [← (cellsTo_mem hp).2.1]; exact getD_lt hro.2 _⟩
  have HCE : Hid (∀ (a : Option Addr) (cap : Nat) w, Sl w a cap (rowN n id) → Calls Tryz.prog 73 #[.slice a n cap] w (CellsPost (cellsTo (rowN n id) n) w)) := fun a cap w h => by
    have := cells_any a cap (rowN n id) w (by rw [hro.1]; omega) h
    rw [hro.1] at this
    exact this
  clear hro HE
  generalize cellsTo (rowN n id) n = P at *
  generalize rowN n id = r at *
  have HTN : Hid (∀ j (h : j < P.length), celTo v m (P.take (j + 1)) = plusN (celTo v m (P.take j)) (v.getD P[j].1 []) P[j].2) := fun j h => celTo_next v m P j h
  have HTO : Hid (∀ j, (celTo v m (P.take j)).length = m ∧ IsByte (celTo v m (P.take j))) := fun j => celTo_ok hall hs.byte _ _ rfl fun p hp => by rw [hn]; exact (HPM.out p (List.mem_of_mem_take hp)).1
  have HTZ : Hid (celTo v m (P.take 0) = List.replicate m 0) := rfl
  have HTE : Hid (celTo v m (P.take P.length) = celTo v m P) := by show _ = _; rw [List.take_length]
  rw [← HTE.out]
  generalize hT : (fun j => celTo v m (P.take j)) = T
  have hT' : ∀ j, celTo v m (P.take j) = T j := fun j => congrFun hT j
  simp only [hT'] at HTN HTO HTZ ⊢
  clear hT hT' HTE
  have hmk := make_row m (by omega) w
  have HZ := Lib.hid (zeros_rw 0 w m (by omega))
  rw [← HTZ.out] at HZ
  have HB0 := Lib.hid ((Below.refl w.heap.size w).alloc (Nat.le_refl _) (.cells (rowArr m zV) 5))
  clear hs hn hall HTZ
  go_enter Tryz.func51, Tryz.ntmps51
  go_wp2_with fail
  clear hmk
  obtain ⟨g0, hg0⟩ : ∃ g0, w.heap.size = g0 := ⟨_, rfl⟩
  rw [hg0] at HZ ⊢
  generalize w.alloc (.cells (rowArr m zV) 5) = w1 at *
  refine (HOF.out w1).mono ?_
  rintro e w2 ⟨gr, rfl, hgr, hrow, b2⟩
  have HC := Lib.hid (HCE.out _ _ w2 (hrow.sl HRL.out HRB.out (by unfold maxLen; omega)))
  have HZ2 := Lib.hid (HZ.out.below b2)
  have HB2 : Hid (Below w.heap.size w w2) := HB0.out.trans (b2.mono HB0.out.size)
  clear hgr hrow b2 HZ HB0 HOF HCE
  go_wp2_with fail
  refine HC.out.mono ?_
  rintro e w3 ⟨pv, rfl, o3, b3⟩
  obtain ⟨pa, pcap, rfl, hct⟩ := o3.form
  have HZ3 := Lib.hid (HZ2.out.below b3)
  have HB3 : Hid (Below w.heap.size w w3) := HB2.out.trans (b3.mono HB2.out.size)
  have HCT := Lib.hid hct
  have hcap := hct.most
  clear o3 b3 hct HZ2 HB2 HC
  go_wp2_with fail
  go_loopw [7, 18] (fun o i wr => ∃ j g : Nat, j ≤ P.length ∧ i = .int .i64 j ∧ o = .slice (some ⟨g, 0, none⟩) m m ∧ Hid (Rw 0 wr (some ⟨g, 0, none⟩) m (T j)) ∧ Hid (Below w3.heap.size w3 wr)) (fun _ i _ => P.length - (intOf i).toNat)
  case atStart => exact ⟨0, g0, by omega, rfl, rfl, HZ3, Below.refl _ _⟩
  case round =>
    obtain ⟨j, gt, hj, rfl, rfl, HO, HB⟩ := hrel
    have HBW : Hid (Below w.heap.size w wr) := HB3.out.trans (HB.out.mono HB3.out.size)
    by_cases hjl : j < P.length
    · obtain ⟨gp, rfl, -, hgpl, hc1, hc2⟩ := (HCT.out.below HB.out).some hjl
      have HPJ := Lib.hid (HPM.out P[j] (List.getElem_mem hjl))
      have HSJ := Lib.hid (HTN.out j hjl)
      generalize P[j] = p at *
      obtain ⟨pt, pc⟩ := p
      simp only at hc1 hc2 HPJ HSJ
      have hpc : pc < 256 := HPJ.out.2
      have hpt : pt < n := HPJ.out.1
      have hptv : pt < v.length := by rw [HN.out]; exact hpt
      obtain ⟨b, off, eb, hb, hrr⟩ := (HS.out.keep (Nat.le_refl _) (Keep.of_below HBW.out)).some hptv
      cases eb
      obtain ⟨ai, ci, hck, hrw⟩ := hrr pt hptv
      have hxm : v[pt].length = m := HAL.out _ (List.getElem_mem hptv)
      rw [getR hptv] at HSJ
      have HSL := Lib.hid hrw.sl
      generalize v[pt] = x at *
      rw [Nat.zero_add, hxm] at hck
      obtain ⟨wo, hwo⟩ : ∃ wo, wo = wr.alloc (.cells #[.int .i64 (pt : Int), .int .u8 (pc : Int)] 129) := ⟨_, rfl⟩
      have hbo : Below wr.heap.size wr wo := by rw [hwo]; exact (Below.refl _ _).alloc (Nat.le_refl _) _
      have hca : wo.cell? ⟨wr.heap.size, 0, none⟩ = some (.int .i64 (pt : Int)) := by rw [hwo]; simp
      have hcb : wo.cell? ⟨wr.heap.size, 1, none⟩ = some (.int .u8 (pc : Int)) := by rw [hwo]; simp
      have c3 := cell_up ((hbo.cell (World.block_lt_of_cell? wr _ hck)).trans hck)
      have c1 := cell_up hca
      have c2 := cell_up hcb
      have i1 : (0 : Int) ≤ (pt : Int) := by omega
      have i2 : (pt : Int) < (n : Int) := by omega
      obtain ⟨hTl, hTb⟩ := HTO.out j
      have HTB := Lib.hid hTb
      have HBO := Lib.hid hbo
      clear hrr hrw hTb hca hcb hbo
      go_wp2_with fail
      rw [← hwo]
      generalize hpb : wr.heap.size = pb at *
      clear hc1 hc2 hck hwo
      refine grow_begin (by kernel_rfl) ?_
      refine grow_take (by kernel_rfl) [0, 1, 2, 3, 4, 5, 6, 7] 5 _ _ (by kernel_rfl) ?_
      simp only [opsAt, List.getElem?_toArray, List.getElem?_cons_succ, List.getElem?_cons_zero]
      repeat (first | go_big_quiet_step (fail) | quiet_step (fail))
      refine wpQuiet_nil ?_
      intro w5 hw5
      have hb5 := below_of_up hw5
      clear c1 c2 c3 i1 i2
      refine grow_one 8 (by kernel_rfl) hw5 (fun K hK => ?_)
      simp only [stepOf, List.getElem?_toArray, List.getElem?_cons_succ, List.getElem?_cons_zero]
      go_simp
      go_at_call 75
      have HB5 : Hid (Below wr.heap.size wr w5) := by
        rw [hpb]
        exact HBO.out.trans (hb5.mono (by have := HBO.out.size; omega))
      have HAX : Hid (Calls Tryz.prog 75 #[.slice (some ⟨gt, 0, none⟩) m m, .slice ai m ci, .int .u8 (pc : Int)] w5 fun e w' => e = .returned (.tuple #[.slice (some ⟨w5.heap.size, 0, none⟩) m m, .int .i64 0]) ∧ NewTo w5 w' (T (j + 1)) m) := by
        have := axpy_same (some ⟨gt, 0, none⟩) ai m ci (T j) x pc w5 (by omega) hpc (by omega) (HO.out.sl.below HB5.out) (HSL.out.below HB5.out)
        rw [hTl, hxm, ← HSJ.out] at this
        exact this
      refine HAX.out.mono ?_
      rintro e w6 ⟨rfl, hn6⟩
      have hb56 := hn6.below
      refine hK.out _ _ hb56 ?_
      clear hK K HAX
      have HO6 : Hid (Rw 0 w6 (some ⟨w5.heap.size, 0, none⟩) m (T (j + 1))) := rw_of hn6 (HTO.out (j + 1)).1 (HTO.out (j + 1)).2 (by omega)
      have HB6 : Hid (Below wr.heap.size wr w6) := HB5.out.trans (hb56.mono HB5.out.size)
      clear hn6 hb56
      generalize w5.heap.size = g5 at *
      refine grow_take (by kernel_rfl) [9, 10, 11, 12] 0 _ _ (by kernel_rfl) ?_
      simp only [opsAt, List.getElem?_toArray, List.getElem?_cons_succ, List.getElem?_cons_zero]
      repeat (first | go_big_quiet_step (fail) | quiet_step (fail))
      refine wpQuiet_nil ?_
      intro w8 hw8
      have hb8 := below_of_up hw8
      have HO8 := Lib.hid (HO6.out.below hb8)
      have HB8 : Hid (Below w3.heap.size w3 w8) := HB.out.trans ((HB6.out.trans (hb8.mono HB6.out.size)).mono HB.out.size)
      refine grow_done (by kernel_rfl) ?_
      clear hb5 hw5 hw8 hb8 HO6 HB6
      go_wp2_with fail
      go_roundw
      case rel => exact ⟨j + 1, g5, by omega, by go_num, rfl, HO8, HB8⟩
      case measure => simp [intOf]; omega
    · obtain rfl : j = P.length := by omega
      go_wp2_with fail
      go_ret
      exact ⟨gt, rfl, HO.out, HBW.out⟩
end Go.Proofs.YtcopjbapglndgaaGreatDoor
end

section
namespace Go.Proofs.YtcopjbapglndgaaGreatDoor
open Go.ChangeShapes Go.WideShapes Go.ChangeAt Go.RowKit Go.Joins
set_option linter.unusedVariables false

theorem Rw.raise {B C : Nat} {w : World} {a : Option Addr} {cap : Nat} {l : List Nat} (h : Rw B w a cap l) (hc : B ≤ C) : Rw C w a cap l :=
  ⟨h.sl, fun hl p hp => (h.tag hl p hp).imp (fun h => Nat.lt_of_lt_of_le h hc) id⟩
theorem Rs.raise {B C : Nat} {w : World} {a : Option Addr} {cap : Nat} {ls : Rws} (h : Rs B w a cap ls) (hc : B ≤ C) : Rs C w a cap ls :=
  ⟨h.len, h.most, h.none, h.here.imp id fun ⟨b, off, e, hb, hr⟩ => ⟨b, off, e, Nat.lt_of_lt_of_le hb hc, fun i hi => by
    obtain ⟨a', c', e1, e2⟩ := hr i hi
    exact ⟨a', c', e1, e2.raise hc⟩⟩⟩
/-- The symbol of an ID, of sources that are filled up. -/
def idSym (ls : Rws) (m id : Nat) : List Nat := symTo ls m (rowN ls.length id) ls.length
theorem pads_len (ls : Rws) (m : Nat) : (pads ls m).length = ls.length := by simp [pads]
theorem pads_all (ls : Rws) (m : Nat) : ∀ x ∈ pads ls m, x.length = m := fun x hx => by
  obtain ⟨y, _, rfl⟩ := List.mem_map.1 hx
  exact fillN_len _ _
theorem idSym_ok {ls : Rws} (m id : Nat) (hb : ∀ x ∈ ls, IsByte x) : (idSym ls m id).length = m ∧ IsByte (idSym ls m id) := symTo_ok hb _ (Nat.le_refl _)

def ESymPost (ls : Rws) (m id : Nat) (w : World) (e : Ending) (w' : World) : Prop :=
  Below w.heap.size w w' ∧ ((goodB ls m = true ∧ ∃ g, e = .returned (.tuple #[.slice (some ⟨g, 0, none⟩) m m, .int .i64 0]) ∧ Rw 0 w' (some ⟨g, 0, none⟩) m (idSym ls m id)) ∨ (goodB ls m = false ∧ e = .returned (.tuple #[.slice none 0 0, .int .i64 3])))

/-- encode.sum of sources that are filled up. -/
theorem esum_pads (g : Nat) (ls : Rws) (m id : Nat) (w : World) (hs : Rs w.heap.size w (some ⟨g, 0, none⟩) ls.length (pads ls m)) (h1 : 1 ≤ ls.length) (h64 : ls.length ≤ 64) (hm : m ≤ 256) (hid : id < 4294967296) :
    Calls Tryz.prog 51 #[.slice (some ⟨g, 0, none⟩) ls.length ls.length, .int .i64 (m : Int), .int .u32 (id : Int)] w (EsPost (idSym ls m id) m w) := by
  have := esum_any g ls.length (pads ls m) m id w hs (pads_len ls m) h1 h64 hm hid (pads_all ls m)
  rw [symTo_pads ls m _ ls.length (Nat.le_refl _)] at this
  exact this

def ESymsPost (ls : Rws) (m : Nat) (ks : List Nat) (w : World) (e : Ending) (w' : World) : Prop :=
  Below w.heap.size w w' ∧ ((goodB ls m = true ∧ ks.length ≤ 64 ∧ ∃ g, e = .returned (.tuple #[.slice (some ⟨g, 0, none⟩) ks.length ks.length, .int .i64 0]) ∧ Rs w'.heap.size w' (some ⟨g, 0, none⟩) ks.length (ks.map (idSym ls m))) ∨ (goodB ls m = true ∧ 64 < ks.length ∧ e = .returned (.tuple #[.slice none 0 0, .int .i64 5])) ∨ (goodB ls m = false ∧ e = .returned (.tuple #[.slice none 0 0, .int .i64 3])))

theorem esymbols_out (a : Option Addr) (cap n : Nat) (hn : n ≤ 1000) (m : Int) (ka : Option Addr) (kn kcap : Nat) (q : Int) (h : ((m < 1 ∨ 256 < m) ∧ q = 1) ∨ (1 ≤ m ∧ m ≤ 256 ∧ (n < 1 ∨ 64 < n) ∧ q = 5)) (w : World) :
    Calls Tryz.prog 28 #[.slice a n cap, .int .i64 m, .slice ka kn kcap] w fun e w' => e = .returned (.tuple #[.slice none 0 0, .int .i64 q]) ∧ w = w' := by
  have HF := Lib.hid (efill_out a cap n hn m q h w)
  have hq : q = 1 ∨ q = 5 := by omega
  clear h
  rcases hq with rfl | rfl
  all_goals
    go_enter Tryz.func28, Tryz.ntmps28
    go_wp2_with fail
    refine HF.out.mono ?_
    rintro e w1 ⟨rfl, rfl⟩
    clear HF
    go_wp2_with fail
    go_ret2
    exact ⟨rfl, rfl⟩

set_option maxRecDepth 100000 in
set_option maxHeartbeats 1000000 in
theorem esymbols_any (a : Option Addr) (cap : Nat) (ls : Rws) (m : Nat) (ka : Option Addr) (kcap : Nat) (ks : List Nat) (w : World) (hs : Rs w.heap.size w a cap ls) (hk : Us w ka kcap ks) (h1 : 1 ≤ ls.length) (h64 : ls.length ≤ 64) (hm1 : 1 ≤ m) (hm2 : m ≤ 256) :
    Calls Tryz.prog 28 #[.slice a ls.length cap, .int .i64 (m : Int), .slice ka ks.length kcap] w (ESymsPost ls m ks w) := by
  have HF := Lib.hid (efill_any a cap ls m w hs h1 h64 hm1 hm2)
  have HK := Lib.hid hk
  have hkl := hk.lt
  have HS : Hid (∀ (g id : Nat) (w' : World), id < 4294967296 → Rs w'.heap.size w' (some ⟨g, 0, none⟩) ls.length (pads ls m) → Calls Tryz.prog 51 #[.slice (some ⟨g, 0, none⟩) ls.length ls.length, .int .i64 (m : Int), .int .u32 (id : Int)] w' (EsPost (idSym ls m id) m w')) := fun g id w' hid h => esum_pads g ls m id w' h h1 h64 hm2 hid
  have HSL : Hid (∀ id : Nat, (idSym ls m id).length = m) := fun id => (idSym_ok m id hs.byte).1
  have HPO : Hid (∀ (w' : World) e, Below w.heap.size w w' → ((goodB ls m = true ∧ ks.length ≤ 64 ∧ ∃ g, e = Ending.returned (.tuple #[.slice (some ⟨g, 0, none⟩) ks.length ks.length, .int .i64 0]) ∧ Rs w'.heap.size w' (some ⟨g, 0, none⟩) ks.length (ks.map (idSym ls m))) ∨ (goodB ls m = true ∧ 64 < ks.length ∧ e = .returned (.tuple #[.slice none 0 0, .int .i64 5])) ∨ (goodB ls m = false ∧ e = .returned (.tuple #[.slice none 0 0, .int .i64 3]))) → ESymsPost ls m ks w e w') := fun w' e h1 h2 => ⟨h1, h2⟩
  generalize idSym ls m = F at *
  clear hs hk
  go_enter Tryz.func28, Tryz.ntmps28
  go_wp2_with fail
  refine HF.out.mono ?_
  rintro e w1 ⟨hb1, h⟩
  have HB1 := Lib.hid hb1
  rcases h with ⟨hg, g, rfl, hr⟩ | ⟨hg, rfl⟩
  · have HG := Lib.hid hg
    have HR := Lib.hid hr
    clear hg hr hb1 HF
    by_cases hks : 64 < ks.length
    · have hd : (64 : Int) < (ks.length : Int) := by omega
      go_wp2_with fail
      go_ret2
      exact HPO.out _ _ HB1.out (.inr (.inl ⟨HG.out, hks, rfl⟩))
    · have hd : ¬ (64 : Int) < (ks.length : Int) := by omega
      have hmk := make_grid ks.length (by omega) w1
      have HG0 := Lib.hid (Grid.new w1.heap.size ks.length w1 (Nat.le_refl _))
      have HB0 := Lib.hid ((Below.refl w1.heap.size w1).alloc (Nat.le_refl _) (.cells (rowArr ks.length nilV) 35))
      go_wp2_with fail
      clear hmk
      go_loopw [30] (fun i wr => ∃ (j : Nat) (ss : Rws), j ≤ ks.length ∧ i = .int .i64 j ∧ Hid (Grid w1.heap.size wr w1.heap.size ss) ∧ Hid (ss.length = ks.length) ∧ Hid (∀ i (h : i < ss.length) (h2 : i < ks.length), i < j → ss[i] = F ks[i]) ∧ Hid (Below w1.heap.size w1 wr)) (fun i _ => ks.length - (intOf i).toNat)
      case atStart => exact ⟨0, List.replicate ks.length [], by omega, rfl, HG0, by show _ = _; simp, fun i h h2 hi => by omega, HB0⟩
      case round =>
        obtain ⟨j, ss, hj, rfl, HGR, HL, HT, HB⟩ := hrel
        by_cases hlt : j < ks.length
        · obtain ⟨bk, ok, rfl, hbk, hck⟩ := (HK.out.below (HB1.out.trans (HB.out.mono HB1.out.size))).some hlt
          have hid : ks[j] < 4294967296 := HK.out.rng _ (List.getElem_mem hlt)
          have HC := Lib.hid (HS.out g ks[j] wr hid ((HR.out.keep (Nat.le_refl _) (Keep.of_below HB.out)).raise HB.out.size))
          have i1 : (0 : Int) ≤ (j : Int) := by omega
          have i2 : (j : Int) < (ks.length : Int) := by omega
          have HJ : Hid (∀ i (h : i < ks.length), i = j → F ks[i] = F ks[j]) := fun i h e => by subst e; rfl
          obtain ⟨id, hide⟩ : ∃ id, ks[j] = id := ⟨_, rfl⟩
          rw [hide] at hck hid HC HJ
          clear hide
          go_wp2_with fail
          refine HC.out.mono ?_
          rintro e w2 ⟨g2, rfl, hr2, hb2⟩
          have HG1 := Lib.hid (HGR.out.below hb2)
          have HBB : Hid (Below w1.heap.size w1 w2) := HB.out.trans (hb2.mono HB.out.size)
          have hjl : j < ss.length := by rw [HL.out]; exact hlt
          have hgs := HG1.out.set hjl (hr2.up _)
          rw [HSL.out] at hgs
          have HGS := Lib.hid hgs
          have HBS : Hid (Below w1.heap.size w1 (w2.setCell ⟨w1.heap.size, j, none⟩ (.slice (some ⟨g2, 0, none⟩) m m))) := HBB.out.setCell (Nat.le_refl _) _
          obtain ⟨ca, cc, hcell, _⟩ := HG1.out.cell hjl
          have hlo := HG1.out.loose j
          have HT2 : Hid (∀ i (h : i < (ss.set j (F id)).length) (h2 : i < ks.length), i < j + 1 → (ss.set j (F id))[i] = F ks[i]) := fun i h h2 hi => by
            by_cases e : i = j
            · rw [HJ.out i h2 e]; subst e; simp
            · rw [List.getElem_set_ne (Ne.symm e)]; exact HT.out i (by simpa using h) h2 (by omega)
          have HL2 : Hid ((ss.set j (F id)).length = ks.length) := by show _ = _; rw [List.length_set]; exact HL.out
          generalize ss.set j (F id) = ss2 at *
          clear hr2 hgs hb2 HC HJ
          go_wp2_with fail
          go_roundw
          case rel => exact ⟨j + 1, ss2, by omega, by go_num, HGS, HL2, HT2, HBS⟩
          case measure => simp [intOf]; omega
        · obtain rfl : j = ks.length := by omega
          have HE : Hid (ss = ks.map F) := by
            show _ = _
            apply List.ext_getElem
            · rw [HL.out]; simp
            · intro i h1 h2
              rw [HT.out i h1 (by simpa using h2) (by simpa using h2)]; simp
          have HRS := Lib.hid (HGR.out.rs (by rw [HL.out]; omega))
          rw [HL.out, HE.out] at HRS
          go_wp2_with fail
          go_ret2
          exact HPO.out _ _ (HB1.out.trans (HB.out.mono HB1.out.size)) (.inl ⟨HG.out, by omega, _, rfl, HRS.out⟩)
  · have HG := Lib.hid hg
    clear hg hb1 HF HS
    go_wp2_with fail
    go_ret2
    exact HPO.out _ _ HB1.out (.inr (.inr ⟨HG.out, rfl⟩))
end Go.Proofs.YtcopjbapglndgaaGreatDoor
end

section
namespace Go.Proofs.YtcopjbapglndgaaGreatDoor
open Go.ChangeShapes Go.WideShapes Go.ChangeAt Go.RowKit Go.Joins
set_option linter.unusedVariables false

theorem begins_small {l : List Nat} {q : Pk} {n : Nat} (h : Begins l q n) {m : Nat} (hm : l.length ≤ m) : q.file.name.length < 256 ∧ q.sums.length ≤ m ∧ q.data.length ≤ 256 ∧ (pkBody q).length ≤ m := by
  obtain ⟨hi, ho, hn, r, e⟩ := h
  have hl : (pkBytes q).length ≤ m := by
    have := congrArg List.length e
    rw [List.length_append] at this
    omega
  unfold pkBytes at hl
  rw [bytes_len hi.set8] at hl
  refine ⟨?_, ?_, ?_, by omega⟩
  · rcases ho with o | o | o | o
    · rw [o.2.2.2.2.2.1]; simp [zFil]
    · exact o.2.2.2.1
    · rw [o.2.2.1]; simp [zFil]
    · rw [o.2.2.1]; simp [zFil]
  · rcases ho with o | o | o | o
    · rw [o.2.2.2.2.2.2.1]; simp
    · rw [o.2.2.2.2.2.2.1]; simp
    · unfold pkBody at hl
      rw [if_neg (by rw [o.1]; decide), if_neg (by rw [o.1]; decide), if_pos o.1] at hl
      unfold sumsN at hl
      rw [List.length_append, List.length_append, wideN_len, sums_len hi.sums] at hl
      simp only [List.length_cons, List.length_nil] at hl
      omega
    · rw [o.2.2.2.2.1]; simp
  · rcases ho with o | o | o | o
    · rw [o.2.2.2.2.2.2.2.2]; simp
    · rw [o.2.2.2.2.2.2.2.2]; simp
    · rw [o.2.2.2.1.2]; simp
    · exact o.2.2.2.2.2.2
theorem begins_sums {l : List Nat} {q : Pk} {n : Nat} (h : Begins l q n) {m : Nat} (hm : l.length ≤ m) : 38 * q.sums.length ≤ m := by
  obtain ⟨hi, ho, hn, r, e⟩ := h
  have hl : (pkBytes q).length ≤ m := by
    have := congrArg List.length e
    rw [List.length_append] at this
    omega
  unfold pkBytes at hl
  rw [bytes_len hi.set8] at hl
  rcases ho with o | o | o | o
  · rw [o.2.2.2.2.2.2.1]; simp
  · rw [o.2.2.2.2.2.2.1]; simp
  · unfold pkBody at hl
    rw [if_neg (by rw [o.1]; decide), if_neg (by rw [o.1]; decide), if_pos o.1] at hl
    unfold sumsN at hl
    rw [List.length_append, List.length_append, wideN_len, sums_len hi.sums] at hl
    simp only [List.length_cons, List.length_nil] at hl
    omega
  · rw [o.2.2.2.2.1]; simp
theorem wideN_isByte (v n : Nat) : IsByte (wideN v n) := wideN_byte n v
theorem pkBody_byte {p : Pk} (hi : PkIn p) (ho : pkOk p) : IsByte (pkBody p) := by
  have hu : ∀ z : Int, u8N z < 256 := u8N_lt
  unfold pkBody
  split
  · unfold mainN
    intro x hx
    simp only [List.mem_append, List.mem_singleton] at hx
    rcases hx with (hx | hx) | hx
    · exact wideN_byte _ _ x hx
    · rw [hx]; exact hu _
    · exact wideN_byte _ _ x hx
  · split
    · unfold fileN
      intro x hx
      simp only [List.mem_append, List.mem_cons, List.not_mem_nil, or_false] at hx
      rcases hx with (((hx | hx) | hx) | hx) | hx
      · rcases hx with hx | hx <;> rw [hx] <;> exact hu _
      · exact hi.file.byte x hx
      · exact wideN_byte _ _ x hx
      · exact hi.file.dgb x hx
      · exact wideN_byte _ _ x hx
    · split
      · unfold sumsN
        intro x hx
        simp only [List.mem_append, List.mem_singleton, List.mem_flatten, List.mem_map] at hx
        rcases hx with (hx | hx) | ⟨y, ⟨z, hz, rfl⟩, hx⟩
        · rw [hx]; exact hu _
        · exact wideN_byte _ _ x hx
        · unfold sumN at hx
          simp only [List.mem_append] at hx
          rcases hx with (hx | hx) | hx
          · exact wideN_byte _ _ x hx
          · exact wideN_byte _ _ x hx
          · exact (hi.sums z hz).2.2.2 x hx
      · unfold symbolN
        intro x hx
        rcases List.mem_append.1 hx with hx | hx
        · exact wideN_byte _ _ x hx
        · exact hi.data x hx
end Go.Proofs.YtcopjbapglndgaaGreatDoor
end

section
namespace Go.Proofs.YtcopjbapglndgaaGreatDoor
open Go.ChangeShapes Go.WideShapes Go.ChangeAt Go.RowKit Go.Joins
set_option linter.unusedVariables false

/-- The packet of an id's symbol. -/
def pktOf (nm : List Nat) (R : Rws) (m id : Nat) : List Nat := bytesN nm 4 (symbolN id (idSym R m id))
/-- The bytes of a volume; of a set's. -/
def volTo (nm : List Nat) (D : List Pk) (R : Rws) (m : Nat) (ks : List Nat) : List Nat := idxN nm D ++ (ks.map (pktOf nm R m)).flatten
def idxS (S : St) : List Nat := idxN (nameS S) (dirTo S S.files.length)
def volS (S : St) (R : Rws) (ks : List Nat) : List Nat := volTo (nameS S) (dirTo S S.files.length) R S.slice.toNat ks
theorem volTo_nil (nm : List Nat) (D : List Pk) (R : Rws) (m : Nat) : volTo nm D R m [] = idxN nm D := by simp [volTo]
theorem volTo_next (nm : List Nat) (D : List Pk) (R : Rws) (m : Nat) {ks : List Nat} {j : Nat} (h : j < ks.length) : volTo nm D R m (ks.take (j + 1)) = volTo nm D R m (ks.take j) ++ pktOf nm R m ks[j] := by
  unfold volTo
  rw [List.take_succ_eq_append_getElem h, List.map_append, List.flatten_append, ← List.append_assoc]
  simp
theorem volTo_app (nm : List Nat) (D : List Pk) (R : Rws) (m : Nat) (a b : List Nat) : volTo nm D R m (a ++ b) = volTo nm D R m a ++ (b.map (pktOf nm R m)).flatten := by
  simp [volTo]
theorem pktOf_len {nm : List Nat} (h8 : nm.length = 8) {R : Rws} {m : Nat} (hb : ∀ x ∈ R, IsByte x) (hm : m ≤ 256) (id : Nat) : (pktOf nm R m id).length ≤ 310 := by
  have h1 := bytes_len h8 4 (symbolN id (idSym R m id))
  have h2 := (idSym_ok (ls := R) m id hb).1
  unfold pktOf
  rw [h1]
  unfold symbolN
  rw [List.length_append, wideN_len, h2]
  omega
theorem pkts_len {nm : List Nat} (h8 : nm.length = 8) {R : Rws} {m : Nat} (hb : ∀ x ∈ R, IsByte x) (hm : m ≤ 256) : ∀ ks : List Nat, ((ks.map (pktOf nm R m)).flatten).length ≤ 310 * ks.length
  | [] => by simp
  | k :: ks => by
    have h1 := pkts_len h8 hb hm ks
    have h2 := pktOf_len h8 (R := R) hb hm k
    simp only [List.map_cons, List.flatten_cons, List.length_append, List.length_cons]
    omega
theorem idxS_len {S : St} (hf : FormedP S) (hs : DirIn S) : (idxS S).length ≤ 6000 := by
  obtain ⟨d1, d2⟩ := dir_ok hs hf.good
  have h1 := idxN_len (nm := nameS S) (nameOf_len _) (l := dirTo S S.files.length) fun p hp => ⟨(d1 p hp).1, (d1 p hp).2.1⟩
  have h2 := dirTo_len S S.files.length
  have h3 := hf.f2
  have h4 := hf.m1
  unfold idxS
  omega
theorem idxS_byte (S : St) (hf : FormedP S) (hs : DirIn S) : IsByte (idxS S) := fun x hx => by
  unfold idxS idxN at hx
  obtain ⟨l, hl, hx⟩ := List.mem_flatten.1 hx
  obtain ⟨p, hp, rfl⟩ := List.mem_map.1 hl
  have h := (dir_ok hs hf.good).1 p hp
  exact bytesN_byte (nameOf_byte _) (pkBody_byte h.1 h.2.1) x hx
theorem pktOf_byte {nm : List Nat} (hn : IsByte nm) {R : Rws} {m : Nat} (hb : ∀ x ∈ R, IsByte x) (id : Nat) : IsByte (pktOf nm R m id) := by
  unfold pktOf
  refine bytesN_byte hn fun x hx => ?_
  unfold symbolN at hx
  rcases List.mem_append.1 hx with h | h
  · exact wideN_byte _ _ x h
  · exact (idSym_ok m id hb).2 x h
theorem pkts_byte {nm : List Nat} (hn : IsByte nm) {R : Rws} {m : Nat} (hb : ∀ x ∈ R, IsByte x) (ks : List Nat) : IsByte ((ks.map (pktOf nm R m)).flatten) := fun x hx => by
  obtain ⟨l, hl, hx⟩ := List.mem_flatten.1 hx
  obtain ⟨k, _, rfl⟩ := List.mem_map.1 hl
  exact pktOf_byte hn hb k x hx
theorem SrcAt.rs {w : World} {a : Option Addr} {c : Nat} {R : List (List Nat)} (h : SrcAt w a c R) : Rs w.heap.size w a c R := by
  refine ⟨h.len, h.most, fun e => ?_, ?_⟩
  · rcases h.here with h0 | ⟨g, h1, _⟩
    · exact h0
    · rw [e] at h1; cases h1
  · rcases h.here with h0 | ⟨g, h1, hg, hc⟩
    · exact .inl h0
    · refine .inr ⟨g, 0, h1, hg, fun i hi => ?_⟩
      obtain ⟨p, q, h2, h3⟩ := hc i hi
      rw [Nat.zero_add]
      refine ⟨p, q, h2, h3, fun hne ad had => .inl ?_⟩
      rcases h3.here with h4 | ⟨b, off, h5, hb⟩
      · exact absurd h4 hne
      · rw [h5] at had
        cases had
        exact World.block_lt_of_cell? w ⟨b, off + 0, none⟩ (hb 0 (List.length_pos_iff.2 hne))
/-- Index of a formed set. -/
def VIdxPost (S : St) (w : World) (e : Ending) (w' : World) : Prop := Below w.heap.size w w' ∧ ∃ p q, e = .returned (.tuple #[.slice p (idxS S).length q, .int .i64 0]) ∧ Sl w' p q (idxS S)
def VIdxC : Prop := ∀ (S : St) (fa : Option Addr) (fc : Nat) (sa : Option Addr) (sc : Nat) (w : World), SetAt w S fa fc sa sc → FormedP S → (sa = none → sc = 0) → Mx w → Tabs w →
  Calls Tryz.prog 11 #[.agg (rowArr 3 (setV S fa fc sa sc))] w (VIdxPost S w)
/-- Make of a formed set, of sources that may be others. -/
def VMakePost (S : St) (R : Rws) (ks : List Nat) (w : World) (e : Ending) (w' : World) : Prop := Below w.heap.size w w' ∧
  ((R.map smOf ≠ S.slices ∧ e = .returned (.tuple #[.slice none 0 0, .int .i64 1])) ∨
   (R.map smOf = S.slices ∧ (R.length = 0 ∨ 64 < ks.length) ∧ e = .returned (.tuple #[.slice none 0 0, .int .i64 5])) ∨
   (R.map smOf = S.slices ∧ R.length ≠ 0 ∧ ks.length ≤ 64 ∧ ∃ p q, e = .returned (.tuple #[.slice p (volS S R ks).length q, .int .i64 0]) ∧ Sl w' p q (volS S R ks)))
def VMakeC : Prop := ∀ (S : St) (fa : Option Addr) (fc : Nat) (sa : Option Addr) (sc : Nat) (ra : Option Addr) (rc : Nat) (R : Rws) (ka : Option Addr) (kc : Nat) (ks : List Nat) (w : World),
  SetAt w S fa fc sa sc → FormedP S → (sa = none → sc = 0) → Rs w.heap.size w ra rc R → (∀ x ∈ R, x.length ≤ 256) → R.length ≤ 64 → Us w ka kc ks → Mx w → Tabs w → Fours w →
  Calls Tryz.prog 10 #[.agg (rowArr 3 (setV S fa fc sa sc)), .slice ra R.length rc, .slice ka ks.length kc] w (VMakePost S R ks w)
end Go.Proofs.YtcopjbapglndgaaGreatDoor
end

section
namespace Go.Proofs.YtcopjbapglndgaaGreatDoor
open Go.ChangeShapes Go.WideShapes Go.ChangeAt Go.RowKit Go.Joins
set_option linter.unusedVariables false

theorem costN_mem {l : List Pk} {p : Pk} (h : p ∈ l) : tellQ p ≤ costN l := by
  obtain ⟨i, hi, rfl⟩ := List.getElem_of_mem h
  have := costN_one hi
  omega
theorem dirIn_of {w : World} {S : St} {fa : Option Addr} {fc : Nat} {sa : Option Addr} {sc : Nat} (hs : SetAt w S fa fc sa sc) (hf : FormedP S) : DirIn S := ⟨hs.slice, hs.files.rng, hs.slices.rng, hf.s1, hf.s2, hf.m1, hf.f2⟩
/-- What the packets of a formed set's directory are. -/
theorem dirS_ok {S : St} (hf : FormedP S) (hd : DirIn S) {p : Pk} (h : p ∈ dirS S) : pkOk p ∧ tellQ p ≤ 15000 ∧ (pkBytes p).length ≤ 10000 := by
  obtain ⟨q, hq, rfl⟩ := List.mem_map.1 h
  obtain ⟨d1, d2⟩ := dir_ok hd hf.good
  obtain ⟨h1, h2, _⟩ := d1 q hq
  have h3 := costN_mem hq
  have h4 := hf.m1
  have h5 := hf.f2
  have h6 := body_len14 h1 h2
  have h7 : (bytesN (nameS S) q.kind (pkBody q)).length = 49 + (pkBody q).length := bytes_len (nameOf_len _) q.kind (pkBody q)
  refine ⟨h2, ?_, ?_⟩
  · show tellQ q ≤ _
    omega
  · show (bytesN (nameS S) q.kind (pkBody q)).length ≤ _
    omega
theorem wrN_pk {F : List Pw} {D : List Pk} (h : F.map (fun f => f.p) = D) : wrN F = (D.map pkBytes).flatten := by
  subst h
  unfold wrN
  rw [List.map_map]
  rfl
theorem wrN_dir {F : List Pw} {S : St} (h : F.map (fun f => f.p) = dirS S) : wrN F = idxS S := by
  rw [wrN_pk h, dirS_bytes]
  rfl

set_option maxRecDepth 1000000 in
set_option maxHeartbeats 8000000 in
theorem vindex_any : VIdxC := by
  intro S fa fc sa sc w hs hf hsn hm ht
  obtain ⟨PQ, hPQ⟩ : ∃ PQ : Ending → World → Prop, PQ = VIdxPost S w := ⟨_, rfl⟩
  have HPQ := Lib.hid hPQ
  rw [← hPQ]
  obtain ⟨arr, harr⟩ : ∃ arr, arr = rowArr 3 (setV S fa fc sa sc) := ⟨_, rfl⟩
  have HAR : Hid (arr.size = 3) := by show _ = _; rw [harr, rowArr_size]
  have hB0 : Below w.heap.size w (w.alloc (.cells arr 29)) := (Below.refl _ _).alloc (Nat.le_refl _) _
  have HB := Lib.hid hB0
  have HX1 : Hid ((w.alloc (.cells arr 29)).heap[w.heap.size]? = some (.cells arr 29 (0, 0))) := heap_alloc_last w _
  have hdi := directory_any S fa fc sa sc _ (hs.below hB0) (hm.below hB0) (ht.below hB0) hsn
  rw [← harr] at hdi
  have HDI := Lib.hid hdi
  have HT1 := Lib.hid (ht.below hB0)
  have HFO := Lib.hid hf
  have HD := Lib.hid (dirIn_of hs hf)
  rw [← harr]
  clear harr hB0 hs hPQ hf hdi hm ht
  go_enter Tryz.func11, Tryz.ntmps11
  go_upto_region 1 with fail
  obtain ⟨b, hb⟩ : ∃ b, b = w.heap.size := ⟨_, rfl⟩
  rw [← hb] at HX1 ⊢
  generalize w.alloc (.cells arr 29) = w1 at *
  clear hb
  go_upto_region 4 with (first
    | (refine wpList_load_row rfl 29 _ rfl b rfl 29 arr (0, 0) _ HX1.out Tryz.underlying29 rfl (by rw [HAR.out]; kernel_rfl) ?_)
    | (go_at_call 26; (with_reducible refine HDI.out.mono ?_); rintro e w2 ⟨h2, _⟩; obtain ⟨v, F, rfl, hp, hm⟩ := h2 HFO.out; have HP := Lib.hid hp; have HM := Lib.hid hm; clear h2 hp hm HDI))
  obtain ⟨a, c, hv, _, _⟩ := HP.out.own.slice
  subst hv
  have hFl : F.length = 2 * S.files.length + 1 := by
    have := congrArg List.length HM.out
    rw [dirS_len, List.length_map] at this
    exact this
  have HFL := Lib.hid hFl
  have hwr := written_any a c F w2 HP.out.sl (fun f hf => dirS_ok HFO.out HD.out (by rw [← HM.out]; exact List.mem_map_of_mem hf)) (by have := HFO.out.f2; omega) (HT1.out.below HP.out.below)
  rw [wrN_dir HM.out] at hwr
  have HWR := Lib.hid hwr
  clear hwr hFl
  go_wp2_with (go_at_call 29; (with_reducible refine HWR.out.mono ?_); rintro e w3 ⟨v3, rfl, ha3⟩; have HA3 := Lib.hid ha3; clear ha3 HWR)
  obtain ⟨p, q, hv3, hs3, _⟩ := HA3.out.own.sl (idxS_byte S HFO.out HD.out)
  have HE : Hid (PQ (.returned (.tuple #[v3, .int .i64 0])) w3) := by
    show PQ _ _
    rw [HPQ.out]
    exact ⟨HB.out.trans ((HP.out.below.trans (HA3.out.below.mono HP.out.below.size)).mono HB.out.size), p, q, by rw [hv3], hs3⟩
  exact HE.out
end Go.Proofs.YtcopjbapglndgaaGreatDoor
end

section
namespace Go.Proofs.YtcopjbapglndgaaGreatDoor
open Go.ChangeShapes Go.WideShapes Go.ChangeAt Go.RowKit Go.Joins
set_option linter.unusedVariables false

/-- What 'own' tells. -/
def OwPost (R : Rws) (L : List Sm) (w : World) (e : Ending) (w' : World) : Prop := ∃ B : Bool, e = .returned (.bool B) ∧ (B = true ↔ R.map smOf = L) ∧ Below w.heap.size w w'
theorem OwPost.no {R : Rws} {L : List Sm} {w w' : World} (h : ¬ R.map smOf = L) (hb : Below w.heap.size w w') : OwPost R L w (.returned (.bool false)) w' := ⟨false, rfl, ⟨fun e => (by cases e), fun e => absurd e h⟩, hb⟩
theorem own_ne {R : Rws} {L : List Sm} {k : Nat} (h1 : k < R.length) (h2 : k < L.length) (h : ¬ smOf R[k] = L[k]) : ¬ R.map smOf = L := fun e => by
  subst e
  exact h (by simp)
theorem smOf_ne {x : Sm} {P : List Nat} (h : ¬ (x.n = (P.length : Int) ∧ x.crc = crcOf P ∧ x.dg = dgN P)) : ¬ smOf P = x := fun e => by
  subst e
  exact h ⟨rfl, rfl, rfl⟩

set_option maxRecDepth 1000000 in
set_option maxHeartbeats 16000000 in
theorem own_any (sa : Option Addr) (sc : Nat) (L : List Sm) (ra : Option Addr) (rc : Nat) (R : Rws) (w : World) (hl : Sms w sa sc L) (hs : Rs w.heap.size w ra rc R) (hR : ∀ x ∈ R, x.length ≤ 256) (ht : Tabs w) (hf : Fours w) :
    Calls Tryz.prog 27 #[.slice sa L.length sc, .slice ra R.length rc] w (OwPost R L w) := by
  have mixed : Tryz.prog.follows .mixedOrders = true := by kernel_rfl
  have hl1 := hl.lt
  have hl2 := hs.lt
  have HL := Lib.hid hl
  have HS := Lib.hid hs
  have HT := Lib.hid ht
  have HF := Lib.hid hf
  have HR := Lib.hid hR
  clear hl hs hR ht hf
  by_cases hlen : R.length = L.length
  case neg =>
    have HNO : Hid (¬ R.map smOf = L) := fun e => hlen (by rw [← e, List.length_map])
    have d0 : decide ((R.length : Int) = (L.length : Int)) = false := decide_eq_false (by omega)
    go_enter Tryz.func27, Tryz.ntmps27
    go_wp2_with fail
    go_ret
    exact OwPost.no HNO.out (Below.refl _ _)
  obtain ⟨n, hn⟩ : ∃ n, n = R.length := ⟨_, rfl⟩
  have hnL : L.length = n := by omega
  have HNR : Hid (R.length = n) := hn.symm
  have HNL := Lib.hid hnL
  rw [← hn] at hl2
  rw [hnL] at hl1
  rw [hnL, ← hn]
  clear hlen hn hnL
  go_enter Tryz.func27, Tryz.ntmps27
  go_wp2_with fail
  go_loopw [14] (fun i wr => ∃ k : Nat, k ≤ n ∧ i = .int .i64 k ∧ Hid (∀ j (h1 : j < R.length) (h2 : j < L.length), j < k → smOf R[j] = L[j]) ∧ Hid (Below w.heap.size w wr)) (fun i _ => n - (intOf i).toNat)
  case atStart => exact ⟨0, by omega, rfl, fun j h1 h2 h3 => by omega, Below.refl _ _⟩
  case round =>
    obtain ⟨k, hk, rfl, HA, HB⟩ := hrel
    by_cases hlt : k < n
    · have hkR : k < R.length := by rw [HNR.out]; exact hlt
      have hkL : k < L.length := by rw [HNL.out]; exact hlt
      obtain ⟨b, off, rfl, hbl, hrr⟩ := (HS.out.keep (Nat.le_refl _) (Keep.of_below HB.out)).some hkR
      obtain ⟨ai, ci, hck, hrw⟩ := hrr k hkR
      obtain ⟨sb, so, rfl, hsb, hsm⟩ := sms_one (HL.out.below HB.out) hkL
      obtain ⟨k0, k1, k2⟩ := hsm
      have hxok := (HL.out.rng _ (List.getElem_mem hkL))
      have HPL : Hid (R[k].length ≤ 256) := HR.out _ (List.getElem_mem hkR)
      have HNE := Lib.hid (own_ne hkR hkL)
      have HNX : Hid (smOf R[k] = L[k] → ∀ j (h1 : j < R.length) (h2 : j < L.length), j < k + 1 → smOf R[j] = L[j]) := fun h j h1 h2 h3 => by
        by_cases h4 : j < k
        · exact HA.out j h1 h2 h4
        · obtain rfl : j = k := by omega
          exact h
      obtain ⟨x, hx⟩ : ∃ x, x = L[k] := ⟨_, rfl⟩
      obtain ⟨P, hP⟩ : ∃ P, P = R[k] := ⟨_, rfl⟩
      rw [← hx] at k0 k1 k2 hxok HNE HNX
      rw [← hP] at hck hrw HPL HNE HNX
      have HSL : Hid (Sl wr ai ci P) := hrw.sl
      have HSMW : Hid (¬ (x.n = (P.length : Int) ∧ x.crc = crcOf P ∧ x.dg = dgN P) → ¬ R.map smOf = L) := fun h => HNE.out (smOf_ne h)
      obtain ⟨m, hm⟩ : ∃ m, m = P.length := ⟨_, rfl⟩
      rw [← hm] at hck HPL HSMW
      have HME := Lib.hid hm
      have i1 : (0 : Int) ≤ (k : Int) := by omega
      have i2 : (k : Int) < (n : Int) := by omega
      have hmr : (m : Int) ≤ 256 := by have := HPL.out; omega
      clear hrr hx hP hrw hm HNE
      go_upto_region 6 with fail
      obtain ⟨cr, hcr⟩ : ∃ cr, cr = crcOf P := ⟨_, rfl⟩
      obtain ⟨DG, hDG⟩ : ∃ DG, DG = rowArr 32 (vOf (dgN P)) := ⟨_, rfl⟩
      obtain ⟨DX, hDX⟩ : ∃ DX, DX = rowArr 32 (vOf x.dg) := ⟨_, rfl⟩
      have VX : Hid (rowArr 32 (vOf x.dg) = DX) := hDX.symm
      have kr0 := cell_regrown k0
      have kr1 := cell_regrown k1
      have KD : Hid (∀ d os j, j < 32 → (Go.Sort.grow (redrawn wr d) os).cell? ⟨sb, so + k * 34 + 2 + j, none⟩ = some (vOf x.dg j)) := fun d os j hj => by
        have hj2 : j < x.dg.length := by rw [hxok.2.2.1]; exact hj
        rw [(below_regrown wr d os).cell (p := ⟨sb, so + k * 34 + 2 + j, none⟩) hsb, k2 j hj2, vOf_eq x.dg j hj2]
      have CN1 := fun d os => Calls.regrown_of (v := .int .u32 (cr : Int)) ((crc_sl ai ci P (Go.Sort.grow (redrawn wr d) os) (HSL.out.below (below_regrown wr d os)) ((HF.out.below HB.out).below (below_regrown wr d os))).mono fun e w' ⟨he, hw⟩ => ⟨by rw [he, hcr], hw ▸ Below.refl _ _⟩)
      have CN2 := fun d os => Calls.regrown_of (v := .agg DG) ((digest_sl ai ci P (Go.Sort.grow (redrawn wr d) os) (HSL.out.below (below_regrown wr d os)) (by rw [← HME.out]; omega) ((HT.out.below HB.out).below (below_regrown wr d os))).mono fun e w' ⟨he, hb⟩ => ⟨by rw [he, hDG], hb⟩)
      rw [← HME.out] at CN1 CN2
      have hnn : ∀ w, (binOp .neq 55 (.agg DG) (.agg DX)).run Tryz.prog w = .ok (.bool (!decide (dgN P = x.dg))) w := fun w => by
        rw [run_neq_struct, hDG, hDX, eq_arr Tryz.underlying55 (dgN_byte P) hxok.2.2.2 (dgN_len P) hxok.2.2.1 9998 w]
        rfl
      have HX1 : Hid (smOf P = ⟨(m : Int), cr, dgN P⟩) := by show _ = _; unfold smOf; rw [HME.out, hcr]
      rw [← hcr] at HSMW
      clear hDG hDX hcr k0 k1 k2 hsb
      by_cases h1 : (m : Int) = x.n
      case neg =>
        have HNO : Hid (¬ R.map smOf = L) := HSMW.out fun h => h1 h.1.symm
        have d1 : ((m : Int) != x.n) = true := bne_iff_ne.2 h1
        clear h1
        refine wp_region_quiet_below mixed (by kernel_rfl) ?_
        repeat (first | go_big_quiet_step (fail) | quiet_step (fail))
        refine wpQuiet_nil ?_
        intro _ hw'
        obtain ⟨⟨dq, osq⟩, hw''⟩ := hw'
        subst hw''
        have HB8 : Hid (Below w.heap.size w (Go.Sort.grow (redrawn wr dq) osq)) := HB.out.trans ((below_regrown wr dq osq).mono HB.out.size)
        clear CN1 CN2 hnn KD kr0 kr1 hck
        generalize Go.Sort.grow (redrawn wr dq) osq = w8 at *
        go_wp2_with fail
        go_ret
        exact OwPost.no HNO.out HB8.out
      rw [← h1] at kr0 HSMW
      have HM1 := Lib.hid h1
      clear h1
      by_cases h2 : (cr : Int) = (x.crc : Int)
      case neg =>
        have HNO : Hid (¬ R.map smOf = L) := HSMW.out fun h => h2 (by rw [h.2.1])
        have d2 : ((cr : Int) != (x.crc : Int)) = true := bne_iff_ne.2 h2
        clear h2
        refine wp_region_quiet_below mixed (by kernel_rfl) ?_
        repeat (first | go_big_quiet_step (exact CN1 _ _) | quiet_step (exact CN1 _ _))
        refine wpQuiet_nil ?_
        intro _ hw'
        obtain ⟨⟨dq, osq⟩, hw''⟩ := hw'
        subst hw''
        have HB8 : Hid (Below w.heap.size w (Go.Sort.grow (redrawn wr dq) osq)) := HB.out.trans ((below_regrown wr dq osq).mono HB.out.size)
        clear CN1 CN2 hnn KD kr0 kr1 hck
        generalize Go.Sort.grow (redrawn wr dq) osq = w8 at *
        go_wp2_with fail
        go_ret
        exact OwPost.no HNO.out HB8.out
      rw [← h2] at kr1
      have HM2 := Lib.hid h2
      clear h2
      by_cases h3 : dgN P = x.dg
      case neg =>
        have HNO : Hid (¬ R.map smOf = L) := HSMW.out fun h => h3 h.2.2.symm
        have nn : ∀ w, (binOp .neq 55 (.agg DG) (.agg DX)).run Tryz.prog w = .ok (.bool true) w := fun w => by rw [hnn w, decide_eq_false h3]; rfl
        clear h3 hnn
        refine wp_region_quiet_below mixed (by kernel_rfl) ?_
        repeat (first
          | (refine wpQuiet_load_v (by rfl) 55 _ rfl sb (so + k * 34 + 2) 32 _ DX VX.out rfl _ (fun w hw j hj => by obtain ⟨⟨d, os⟩, rfl⟩ := hw; exact KD.out d os j hj) Tryz.underlying55 rfl (by kernel_rfl) ?_)
          | go_big_quiet_step (first | exact CN1 _ _ | exact CN2 _ _) | quiet_step (first | exact CN1 _ _ | exact CN2 _ _))
        refine wpQuiet_nil ?_
        intro _ hw'
        obtain ⟨⟨dq, osq⟩, hw''⟩ := hw'
        subst hw''
        have HB8 : Hid (Below w.heap.size w (Go.Sort.grow (redrawn wr dq) osq)) := HB.out.trans ((below_regrown wr dq osq).mono HB.out.size)
        clear CN1 CN2 nn KD kr0 kr1 hck
        generalize Go.Sort.grow (redrawn wr dq) osq = w8 at *
        go_wp2_with fail
        go_ret
        exact OwPost.no HNO.out HB8.out
      have hsame : smOf P = x := by
        have e2 : cr = x.crc := Int.ofNat.inj HM2.out
        rw [HX1.out, HM1.out, e2, h3]
      have HA2 := Lib.hid (HNX.out hsame)
      have nn : ∀ w, (binOp .neq 55 (.agg DG) (.agg DX)).run Tryz.prog w = .ok (.bool false) w := fun w => by rw [hnn w, decide_eq_true h3]; rfl
      clear h3 hnn hsame HNX HA
      refine wp_region_quiet_below mixed (by kernel_rfl) ?_
      repeat (first
        | (refine wpQuiet_load_v (by rfl) 55 _ rfl sb (so + k * 34 + 2) 32 _ DX VX.out rfl _ (fun w hw j hj => by obtain ⟨⟨d, os⟩, rfl⟩ := hw; exact KD.out d os j hj) Tryz.underlying55 rfl (by kernel_rfl) ?_)
        | go_big_quiet_step (first | exact CN1 _ _ | exact CN2 _ _) | quiet_step (first | exact CN1 _ _ | exact CN2 _ _))
      refine wpQuiet_nil ?_
      intro _ hw'
      obtain ⟨⟨dq, osq⟩, hw''⟩ := hw'
      subst hw''
      have HB8 : Hid (Below w.heap.size w (Go.Sort.grow (redrawn wr dq) osq)) := HB.out.trans ((below_regrown wr dq osq).mono HB.out.size)
      clear CN1 CN2 nn KD kr0 kr1 hck
      generalize Go.Sort.grow (redrawn wr dq) osq = w8 at *
      go_wp2_with fail
      go_roundw
      case rel => exact ⟨k + 1, by omega, by go_num, HA2, HB8⟩
      case measure => simp [intOf]; omega
    · obtain rfl : n = k := by omega
      have HYES : Hid (R.map smOf = L) := by
        show _ = _
        apply List.ext_getElem
        · rw [List.length_map, HNR.out, HNL.out]
        · intro j h1 h2
          rw [List.getElem_map]
          exact HA.out j (by simpa using h1) h2 (by rw [← HNL.out]; exact h2)
      go_wp2_with fail
      go_ret
      exact ⟨true, rfl, ⟨fun _ => HYES.out, fun _ => rfl⟩, HB.out⟩
end Go.Proofs.YtcopjbapglndgaaGreatDoor
end

section
namespace Go.Proofs.YtcopjbapglndgaaGreatDoor
open Go.ChangeShapes Go.WideShapes Go.ChangeAt Go.RowKit Go.Joins
set_option linter.unusedVariables false

def ESymsPostB (ls : Rws) (m : Nat) (ks : List Nat) (w : World) (e : Ending) (w' : World) : Prop :=
  Below w.heap.size w w' ∧ ((goodB ls m = true ∧ ks.length ≤ 64 ∧ ∃ g, e = .returned (.tuple #[.slice (some ⟨g, 0, none⟩) ks.length ks.length, .int .i64 0]) ∧ Grid 0 w' g (ks.map (idSym ls m))) ∨ (goodB ls m = true ∧ 64 < ks.length ∧ e = .returned (.tuple #[.slice none 0 0, .int .i64 5])) ∨ (goodB ls m = false ∧ e = .returned (.tuple #[.slice none 0 0, .int .i64 3])))

set_option maxRecDepth 100000 in
set_option maxHeartbeats 1000000 in
theorem esymbols_byt (a : Option Addr) (cap : Nat) (ls : Rws) (m : Nat) (ka : Option Addr) (kcap : Nat) (ks : List Nat) (w : World) (hs : Rs w.heap.size w a cap ls) (hk : Us w ka kcap ks) (h1 : 1 ≤ ls.length) (h64 : ls.length ≤ 64) (hm1 : 1 ≤ m) (hm2 : m ≤ 256) :
    Calls Tryz.prog 28 #[.slice a ls.length cap, .int .i64 (m : Int), .slice ka ks.length kcap] w (ESymsPostB ls m ks w) := by
  have HF := Lib.hid (efill_any a cap ls m w hs h1 h64 hm1 hm2)
  have HK := Lib.hid hk
  have hkl := hk.lt
  have HS : Hid (∀ (g id : Nat) (w' : World), id < 4294967296 → Rs w'.heap.size w' (some ⟨g, 0, none⟩) ls.length (pads ls m) → Calls Tryz.prog 51 #[.slice (some ⟨g, 0, none⟩) ls.length ls.length, .int .i64 (m : Int), .int .u32 (id : Int)] w' (EsPost (idSym ls m id) m w')) := fun g id w' hid h => esum_pads g ls m id w' h h1 h64 hm2 hid
  have HSL : Hid (∀ id : Nat, (idSym ls m id).length = m) := fun id => (idSym_ok m id hs.byte).1
  have HPO : Hid (∀ (w' : World) e, Below w.heap.size w w' → ((goodB ls m = true ∧ ks.length ≤ 64 ∧ ∃ g, e = Ending.returned (.tuple #[.slice (some ⟨g, 0, none⟩) ks.length ks.length, .int .i64 0]) ∧ Grid 0 w' g (ks.map (idSym ls m))) ∨ (goodB ls m = true ∧ 64 < ks.length ∧ e = .returned (.tuple #[.slice none 0 0, .int .i64 5])) ∨ (goodB ls m = false ∧ e = .returned (.tuple #[.slice none 0 0, .int .i64 3]))) → ESymsPostB ls m ks w e w') := fun w' e h1 h2 => ⟨h1, h2⟩
  generalize idSym ls m = F at *
  clear hs hk
  go_enter Tryz.func28, Tryz.ntmps28
  go_wp2_with fail
  refine HF.out.mono ?_
  rintro e w1 ⟨hb1, h⟩
  have HB1 := Lib.hid hb1
  rcases h with ⟨hg, g, rfl, hr⟩ | ⟨hg, rfl⟩
  · have HG := Lib.hid hg
    have HR := Lib.hid hr
    clear hg hr hb1 HF
    by_cases hks : 64 < ks.length
    · have hd : (64 : Int) < (ks.length : Int) := by omega
      go_wp2_with fail
      go_ret2
      exact HPO.out _ _ HB1.out (.inr (.inl ⟨HG.out, hks, rfl⟩))
    · have hd : ¬ (64 : Int) < (ks.length : Int) := by omega
      have hmk := make_grid ks.length (by omega) w1
      have HG0 := Lib.hid (Grid.new 0 ks.length w1 (Nat.zero_le _))
      have HB0 := Lib.hid ((Below.refl w1.heap.size w1).alloc (Nat.le_refl _) (.cells (rowArr ks.length nilV) 35))
      go_wp2_with fail
      clear hmk
      go_loopw [30] (fun i wr => ∃ (j : Nat) (ss : Rws), j ≤ ks.length ∧ i = .int .i64 j ∧ Hid (Grid 0 wr w1.heap.size ss) ∧ Hid (ss.length = ks.length) ∧ Hid (∀ i (h : i < ss.length) (h2 : i < ks.length), i < j → ss[i] = F ks[i]) ∧ Hid (Below w1.heap.size w1 wr)) (fun i _ => ks.length - (intOf i).toNat)
      case atStart => exact ⟨0, List.replicate ks.length [], by omega, rfl, HG0, by show _ = _; simp, fun i h h2 hi => by omega, HB0⟩
      case round =>
        obtain ⟨j, ss, hj, rfl, HGR, HL, HT, HB⟩ := hrel
        by_cases hlt : j < ks.length
        · obtain ⟨bk, ok, rfl, hbk, hck⟩ := (HK.out.below (HB1.out.trans (HB.out.mono HB1.out.size))).some hlt
          have hid : ks[j] < 4294967296 := HK.out.rng _ (List.getElem_mem hlt)
          have HC := Lib.hid (HS.out g ks[j] wr hid ((HR.out.keep (Nat.le_refl _) (Keep.of_below HB.out)).raise HB.out.size))
          have i1 : (0 : Int) ≤ (j : Int) := by omega
          have i2 : (j : Int) < (ks.length : Int) := by omega
          have HJ : Hid (∀ i (h : i < ks.length), i = j → F ks[i] = F ks[j]) := fun i h e => by subst e; rfl
          obtain ⟨id, hide⟩ : ∃ id, ks[j] = id := ⟨_, rfl⟩
          rw [hide] at hck hid HC HJ
          clear hide
          go_wp2_with fail
          refine HC.out.mono ?_
          rintro e w2 ⟨g2, rfl, hr2, hb2⟩
          have HG1 := Lib.hid (HGR.out.below hb2)
          have HBB : Hid (Below w1.heap.size w1 w2) := HB.out.trans (hb2.mono HB.out.size)
          have hjl : j < ss.length := by rw [HL.out]; exact hlt
          have hgs := HG1.out.set hjl hr2
          rw [HSL.out] at hgs
          have HGS := Lib.hid hgs
          have HBS : Hid (Below w1.heap.size w1 (w2.setCell ⟨w1.heap.size, j, none⟩ (.slice (some ⟨g2, 0, none⟩) m m))) := HBB.out.setCell (Nat.le_refl _) _
          obtain ⟨ca, cc, hcell, _⟩ := HG1.out.cell hjl
          have hlo := HG1.out.loose j
          have HT2 : Hid (∀ i (h : i < (ss.set j (F id)).length) (h2 : i < ks.length), i < j + 1 → (ss.set j (F id))[i] = F ks[i]) := fun i h h2 hi => by
            by_cases e : i = j
            · rw [HJ.out i h2 e]; subst e; simp
            · rw [List.getElem_set_ne (Ne.symm e)]; exact HT.out i (by simpa using h) h2 (by omega)
          have HL2 : Hid ((ss.set j (F id)).length = ks.length) := by show _ = _; rw [List.length_set]; exact HL.out
          generalize ss.set j (F id) = ss2 at *
          clear hr2 hgs hb2 HC HJ
          go_wp2_with fail
          go_roundw
          case rel => exact ⟨j + 1, ss2, by omega, by go_num, HGS, HL2, HT2, HBS⟩
          case measure => simp [intOf]; omega
        · obtain rfl : j = ks.length := by omega
          have HE : Hid (ss = ks.map F) := by
            show _ = _
            apply List.ext_getElem
            · rw [HL.out]; simp
            · intro i h1 h2
              rw [HT.out i h1 (by simpa using h2) (by simpa using h2)]; simp
          have HRS := Lib.hid HGR.out
          rw [HE.out] at HRS
          go_wp2_with fail
          go_ret2
          exact HPO.out _ _ (HB1.out.trans (HB.out.mono HB1.out.size)) (.inl ⟨HG.out, by omega, _, rfl, HRS.out⟩)
  · have HG := Lib.hid hg
    clear hg hb1 HF HS
    go_wp2_with fail
    go_ret2
    exact HPO.out _ _ HB1.out (.inr (.inr ⟨HG.out, rfl⟩))
end Go.Proofs.YtcopjbapglndgaaGreatDoor
end
