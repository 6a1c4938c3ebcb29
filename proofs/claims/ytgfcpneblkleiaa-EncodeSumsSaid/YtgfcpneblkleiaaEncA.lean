/-
  Package encode's fill and sum.
-/
import Derived.Test.YtgfcpneblkleiaaEncMath
import Derived.Test.YtgfcpneblkleiaaPrePar
import Derived.Test.YtgfcpneblkleiaaRowOf
namespace Go.Proofs.Ytgfcpneblkleiaa
open Go.ChangeShapes Go.WideShapes Go.ChangeAt Go.RowKit Go.Joins
set_option linter.unusedVariables false

def EFillPost (ls : Rws) (m : Nat) (w : World) (e : Ending) (w' : World) : Prop :=
  Below w.heap.size w w' ∧ ((goodB ls m = true ∧ ∃ g, e = .returned (.tuple #[.slice (some ⟨g, 0, none⟩) ls.length ls.length, .int .i64 0]) ∧ Rs w'.heap.size w' (some ⟨g, 0, none⟩) ls.length (pads ls m)) ∨ (goodB ls m = false ∧ e = .returned (.tuple #[.slice none 0 0, .int .i64 3])))

set_option maxRecDepth 100000 in
set_option maxHeartbeats 2000000 in
theorem efill_any (a : Option Addr) (cap : Nat) (src : Rws) (m : Nat) (w : World) (hs : Rs w.heap.size w a cap src) (h1 : 1 ≤ src.length) (h64 : src.length ≤ 64) (hm1 : 1 ≤ m) (hm2 : m ≤ 256) :
    Calls Try.prog 14 #[.slice a src.length cap, .int .i64 (m : Int)] w (EFillPost src m w) := by
  have HS := Lib.hid hs
  have HBY := Lib.hid hs.byte
  obtain ⟨n, hn⟩ : ∃ n, src.length = n := ⟨_, rfl⟩
  have HN := Lib.hid hn
  have HE : Hid (∀ w', Below w.heap.size w w' → goodB src m = true → Rs w'.heap.size w' (some ⟨w.heap.size, 0, none⟩) n (pads src m) → EFillPost src m w (.returned (.tuple #[.slice (some ⟨w.heap.size, 0, none⟩) n n, .int .i64 0])) w') := fun w' hb hg hr => by
    refine ⟨hb, .inl ⟨hg, w.heap.size, by rw [hn], by rw [hn]; exact hr⟩⟩
  rw [hn] at h1 h64 ⊢
  have hmk := make_grid n (by omega) w
  have HF0 := Lib.hid (FullAt.start w src m n)
  have HMK : Hid (∀ w, (Instr.makeSlice 30 (.int .i64 (m : Int)) (.int .i64 (m : Int))).run Try.prog w = .ok (.slice (some ⟨w.heap.size, 0, none⟩) m m) (w.alloc (.cells (rowArr m zV) 5))) := make_row m (by omega)
  have d1 : ¬ ((m : Int) < 1) := by omega
  have d2 : ¬ ((256 : Int) < (m : Int)) := by omega
  have d3 : ¬ ((n : Int) < 1) := by omega
  have d4 : ¬ ((64 : Int) < (n : Int)) := by omega
  clear hs hn
  go_enter Try.func14, Try.ntmps14
  go_wp2_with fail
  clear hmk
  go_loopw [28] (fun i wr => ∃ (j : Nat) (ls : Rws), j ≤ n ∧ i = .int .i64 j ∧ Hid (FullAt w src m n j ls wr)) (fun i _ => n - (intOf i).toNat)
  case atStart => exact ⟨0, _, by omega, rfl, HF0⟩
  case round =>
    obtain ⟨j, ls, hj, rfl, HF⟩ := hrel
    by_cases hlt : j < n
    · have hjs : j < src.length := by rw [HN.out]; exact hlt
      have HRS := Lib.hid (HS.out.keep (Nat.le_refl _) (Keep.of_below HF.out.below))
      obtain ⟨b, off, rfl, hb, hrr⟩ := HRS.out.some hjs
      obtain ⟨ai, ci, hck, hrw⟩ := hrr j hjs
      have HRW := Lib.hid hrw
      have i1 : (0 : Int) ≤ (j : Int) := by omega
      have i2 : (j : Int) < (n : Int) := by omega
      by_cases hlong : m < src[j].length
      · have HBAD : Hid (goodB src m = false) := by
          show _ = _
          rw [Bool.eq_false_iff]
          intro h
          have := goodB_iff.1 h _ (List.getElem_mem hjs)
          omega
        have HBL := Lib.hid HF.out.below
        generalize src[j] = x at *
        have dl : (m : Int) < (x.length : Int) := by omega
        clear hrr hrw
        go_wp2_with fail
        go_ret2
        exact ⟨HBL.out, .inr ⟨HBAD.out, rfl⟩⟩
      · have dl : ¬ (m : Int) < (src[j].length : Int) := by omega
        have hmk := HMK.out wr
        have HNX : Hid (∀ (a1 w' : World), Below wr.heap.size wr a1 → w'.heap[w.heap.size]? = (a1.setCell ⟨w.heap.size, j, none⟩ (.slice (some ⟨wr.heap.size, 0, none⟩) m m)).heap[w.heap.size]? → Keep w.heap.size wr w' → w'.heap[wr.heap.size]? = some (.cells (rowArr m (vOf (fillN src[j] m))) 5 (0, 0)) → ∃ ls', FullAt w src m n (j + 1) ls' w') := fun a1 w' k1 e hk hg => ⟨_, HF.out.next hjs HN.out (by omega) (HBY.out _ (List.getElem_mem hjs)) (by omega) k1 e hk hg⟩
        generalize src[j] = x at *
        have hjl : j < ls.length := by rw [HF.out.len]; exact hlt
        have hb1 : Below wr.heap.size wr (wr.alloc (.cells (rowArr m zV) 5)) := (Below.refl _ _).alloc (Nat.le_refl _) _
        have hg1 := HF.out.grid.below hb1
        have HLT := Lib.hid HF.out.grid.lt
        have HLOW := Lib.hid HF.out.below.size
        obtain ⟨ca, cc, hcell, _⟩ := hg1.cell hjl
        have hlo := hg1.loose j
        have HK1 : Hid (Keep w.heap.size wr ((wr.alloc (.cells (rowArr m zV) 5)).setCell ⟨w.heap.size, j, none⟩ (.slice (some ⟨wr.heap.size, 0, none⟩) m m))) := (Keep.of_below hb1).set (p := ⟨w.heap.size, j, none⟩) hg1.other _
        have HB1 := Lib.hid hb1
        have HG : Hid (((wr.alloc (.cells (rowArr m zV) 5)).setCell ⟨w.heap.size, j, none⟩ (.slice (some ⟨wr.heap.size, 0, none⟩) m m)).heap[wr.heap.size]? = some (.cells (rowArr m zV).toList.toArray 5 (0, 0))) := by
          show _ = _
          rw [grid_new_heap _ _ _ _ (by have := HLT.out; show w.heap.size ≠ wr.heap.size; omega), Array.toArray_toList]; exact heap_alloc_new wr _
        have HCL : Hid (((x.take m).map byteV).length = Nat.min x.length m) := by show _ = min x.length m; simp; omega
        have HPOS : Hid (0 < ((x.take m).map byteV).length → (some (⟨wr.heap.size, 0, none⟩ : Addr)) = some ⟨wr.heap.size, 0, none⟩ ∧ ∃ ad, ai = some ad ∧ ∀ j' v, ((x.take m).map byteV)[j']? = some v → ((wr.alloc (.cells (rowArr m zV) 5)).setCell ⟨w.heap.size, j, none⟩ (.slice (some ⟨wr.heap.size, 0, none⟩) m m)).cell? (ad.add j') = some v) :=
          fun h0 => ⟨rfl, src_cells (HRW.out.keep HK1.out).sl m h0⟩
        have HFIT : Hid (0 + ((x.take m).map byteV).length ≤ (rowArr m zV).toList.length) := by show _ ≤ _; simp [rowArr]; omega
        have H1C : Hid (∀ v ∈ (x.take m).map byteV, v.oneCell' = true) := bytes_one
        have HR := Lib.hid (fill_row x m)
        have hxl := HRW.out.sl.lt
        generalize (x.take m).map byteV = cs at *
        clear hrr hrw hb1 hg1
        obtain ⟨W1, hW1⟩ : ∃ W1, W1 = (wr.alloc (.cells (rowArr m zV) 5)).setCell ⟨w.heap.size, j, none⟩ (.slice (some ⟨wr.heap.size, 0, none⟩) m m) := ⟨_, rfl⟩
        go_wp2_with ((with_reducible refine wpList_copy_splice rfl (.tmp 45) (.tmp 46) 30 30 rfl 5 Try.underlying30 (by kernel_rfl) (some ⟨wr.heap.size, 0, none⟩) ai m m x.length ci rfl rfl wr.heap.size 0 (rowArr m zV).toList 5 HG.out cs HCL.out HPOS.out HFIT.out H1C.out wr.heap.size _ (Below.refl _ _) (Nat.le_refl _) ?_); intro w2 HW2 b2)
        obtain ⟨ls', hf'⟩ := HNX.out _ w2 HB1.out (b2.block _ HLT.out) (HK1.out.over b2) (by rw [HW2.out, HR.out])
        have HF2 := Lib.hid hf'
        clear hf' HW2 b2 HNX HG HPOS HK1 HB1 HFIT H1C HR HCL hmk hcell hlo hck
        go_roundw
        case rel => exact ⟨j + 1, ls', by omega, by go_num, HF2⟩
        case measure => simp [intOf]; omega
    · obtain rfl : n = j := by omega
      have hfe := HF.out.all HN.out
      subst hfe
      have HGOOD : Hid (goodB src m = true) := goodB_iff.2 fun x hx => by
        obtain ⟨i, hi, rfl⟩ := List.getElem_of_mem hx
        exact HF.out.short i hi (by rw [← HN.out]; exact hi)
      have HRS := Lib.hid (HF.out.grid.rs (by rw [HF.out.len]; omega))
      rw [HF.out.len] at HRS
      have HFB := Lib.hid HF.out.below
      clear HF
      go_wp2_with fail
      go_ret2
      exact HE.out _ HFB.out HGOOD.out HRS.out

theorem efill_out (a : Option Addr) (cap n : Nat) (hn : n ≤ 1000) (m : Int) (q : Int) (h : ((m < 1 ∨ 256 < m) ∧ q = 1) ∨ (1 ≤ m ∧ m ≤ 256 ∧ (n < 1 ∨ 64 < n) ∧ q = 5)) (w : World) :
    Calls Try.prog 14 #[.slice a n cap, .int .i64 m] w fun e w' => e = .returned (.tuple #[.slice none 0 0, .int .i64 q]) ∧ w = w' := by
  rcases h with ⟨h | h, rfl⟩ | ⟨h1, h2, h | h, rfl⟩
  · go_enter Try.func14, Try.ntmps14
    go_wp2
    go_ret2
    exact ⟨rfl, rfl⟩
  · have d : ¬ m < 1 := by omega
    go_enter Try.func14, Try.ntmps14
    go_wp2
    go_ret2
    exact ⟨rfl, rfl⟩
  · have d1 : ¬ m < 1 := by omega
    have d2 : ¬ 256 < m := by omega
    have d3 : (n : Int) < 1 := by omega
    go_enter Try.func14, Try.ntmps14
    go_wp2
    go_ret2
    exact ⟨rfl, rfl⟩
  · have d1 : ¬ m < 1 := by omega
    have d2 : ¬ 256 < m := by omega
    have d3 : ¬ (n : Int) < 1 := by omega
    have d4 : (64 : Int) < (n : Int) := by omega
    go_enter Try.func14, Try.ntmps14
    go_wp2
    go_ret2
    exact ⟨rfl, rfl⟩


def EsPost (l : List Nat) (m : Nat) (w : World) (e : Ending) (w' : World) : Prop :=
  ∃ g, e = .returned (.slice (some ⟨g, 0, none⟩) m m) ∧ Rw 0 w' (some ⟨g, 0, none⟩) m l ∧ Below w.heap.size w w'

set_option maxRecDepth 100000 in
set_option maxHeartbeats 1000000 in
theorem esum_any (g n : Nat) (v : Rws) (m id : Nat) (w : World) (hs : Rs w.heap.size w (some ⟨g, 0, none⟩) n v) (hn : v.length = n) (h1 : 1 ≤ n) (h64 : n ≤ 64) (hm : m ≤ 256) (hid : id < 4294967296) (hall : ∀ x ∈ v, x.length = m) :
    Calls Try.prog 15 #[.slice (some ⟨g, 0, none⟩) n n, .int .i64 (m : Int), .int .u32 (id : Int)] w (EsPost (symTo v m (rowN n id) n) m w) := by
  have HS := Lib.hid hs
  have HN := Lib.hid hn
  have HAL := Lib.hid hall
  have hro := rowN_ok n id
  have HOF := Lib.hid (of_any n id h1 h64 hid)
  have HRL := Lib.hid hro.1
  have HRB := Lib.hid hro.2
  have HE : Hid (celTo v m (cellsTo (rowN n id) n) = symTo v m (rowN n id) n) := cel_sym hall hs.byte n (by omega)
  rw [← HE.out]
  have hPL : (cellsTo (rowN n id) n).length ≤ 64 := Nat.le_trans (cellsTo_len _ _) h64
  have HPM : Hid (∀ p ∈ cellsTo (rowN n id) n, p.1 < n ∧ p.2 < 256) := fun p hp => ⟨(cellsTo_mem hp).1, by rw [← (cellsTo_mem hp).2.1]; exact getD_lt hro.2 _⟩
  have HCE : Hid (∀ (a : Option Addr) (cap : Nat) w, Sl w a cap (rowN n id) → Calls Try.prog 19 #[.slice a n cap] w (CellsPost (cellsTo (rowN n id) n) w)) := fun a cap w h => by
    have := cells_any a cap (rowN n id) w (by rw [hro.1]; omega) h
    rw [hro.1] at this
    exact this
  clear hro HE
  generalize cellsTo (rowN n id) n = P at *
  generalize rowN n id = r at *
  have HTN : Hid (∀ j (h : j < P.length), celTo v m (P.take (j + 1)) = plusN (celTo v m (P.take j)) (v.getD P[j].1 []) P[j].2) := fun j h => celTo_next v m P j h
  have HTO : Hid (∀ j, (celTo v m (P.take j)).length = m ∧ IsByte (celTo v m (P.take j))) := fun j => celTo_ok hall hs.byte _ _ rfl fun p hp => by rw [hn]; exact (HPM.out p (List.mem_of_mem_take hp)).1
  have HTZ : Hid (celTo v m (P.take 0) = List.replicate m 0) := rfl
  have HTE : Hid (celTo v m (P.take P.length) = celTo v m P) := by show _ = _; rw [List.take_length]
  rw [← HTE.out]
  generalize hT : (fun j => celTo v m (P.take j)) = T
  have hT' : ∀ j, celTo v m (P.take j) = T j := fun j => congrFun hT j
  simp only [hT'] at HTN HTO HTZ ⊢
  clear hT hT' HTE
  have hmk := make_row m (by omega) w
  have HZ := Lib.hid (zeros_rw 0 w m (by omega))
  rw [← HTZ.out] at HZ
  have HB0 := Lib.hid ((Below.refl w.heap.size w).alloc (Nat.le_refl _) (.cells (rowArr m zV) 5))
  clear hs hn hall HTZ
  go_enter Try.func15, Try.ntmps15
  go_wp2_with fail
  clear hmk
  obtain ⟨g0, hg0⟩ : ∃ g0, w.heap.size = g0 := ⟨_, rfl⟩
  rw [hg0] at HZ ⊢
  generalize w.alloc (.cells (rowArr m zV) 5) = w1 at *
  refine (HOF.out w1).mono ?_
  rintro e w2 ⟨gr, rfl, hgr, hrow, b2⟩
  have HC := Lib.hid (HCE.out _ _ w2 (hrow.sl HRL.out HRB.out (by unfold maxLen; omega)))
  have HZ2 := Lib.hid (HZ.out.below b2)
  have HB2 : Hid (Below w.heap.size w w2) := HB0.out.trans (b2.mono HB0.out.size)
  clear hgr hrow b2 HZ HB0 HOF HCE
  go_wp2_with fail
  refine HC.out.mono ?_
  rintro e w3 ⟨pv, rfl, o3, b3⟩
  obtain ⟨pa, pcap, rfl, hct⟩ := o3.form
  have HZ3 := Lib.hid (HZ2.out.below b3)
  have HB3 : Hid (Below w.heap.size w w3) := HB2.out.trans (b3.mono HB2.out.size)
  have HCT := Lib.hid hct
  have hcap := hct.most
  clear o3 b3 hct HZ2 HB2 HC
  go_wp2_with fail
  go_loopw [7, 18] (fun o i wr => ∃ j g : Nat, j ≤ P.length ∧ i = .int .i64 j ∧ o = .slice (some ⟨g, 0, none⟩) m m ∧ Hid (Rw 0 wr (some ⟨g, 0, none⟩) m (T j)) ∧ Hid (Below w3.heap.size w3 wr)) (fun _ i _ => P.length - (intOf i).toNat)
  case atStart => exact ⟨0, g0, by omega, rfl, rfl, HZ3, Below.refl _ _⟩
  case round =>
    obtain ⟨j, gt, hj, rfl, rfl, HO, HB⟩ := hrel
    have HBW : Hid (Below w.heap.size w wr) := HB3.out.trans (HB.out.mono HB3.out.size)
    by_cases hjl : j < P.length
    · obtain ⟨gp, rfl, -, hgpl, hc1, hc2⟩ := (HCT.out.below HB.out).some hjl
      have HPJ := Lib.hid (HPM.out P[j] (List.getElem_mem hjl))
      have HSJ := Lib.hid (HTN.out j hjl)
      generalize P[j] = p at *
      obtain ⟨pt, pc⟩ := p
      simp only at hc1 hc2 HPJ HSJ
      have hpc : pc < 256 := HPJ.out.2
      have hpt : pt < n := HPJ.out.1
      have hptv : pt < v.length := by rw [HN.out]; exact hpt
      obtain ⟨b, off, eb, hb, hrr⟩ := (HS.out.keep (Nat.le_refl _) (Keep.of_below HBW.out)).some hptv
      cases eb
      obtain ⟨ai, ci, hck, hrw⟩ := hrr pt hptv
      have hxm : v[pt].length = m := HAL.out _ (List.getElem_mem hptv)
      rw [getR hptv] at HSJ
      have HSL := Lib.hid hrw.sl
      generalize v[pt] = x at *
      rw [Nat.zero_add, hxm] at hck
      obtain ⟨wo, hwo⟩ : ∃ wo, wo = wr.alloc (.cells #[.int .i64 (pt : Int), .int .u8 (pc : Int)] 47) := ⟨_, rfl⟩
      have hbo : Below wr.heap.size wr wo := by rw [hwo]; exact (Below.refl _ _).alloc (Nat.le_refl _) _
      have hca : wo.cell? ⟨wr.heap.size, 0, none⟩ = some (.int .i64 (pt : Int)) := by rw [hwo]; simp
      have hcb : wo.cell? ⟨wr.heap.size, 1, none⟩ = some (.int .u8 (pc : Int)) := by rw [hwo]; simp
      have c3 := cell_up ((hbo.cell (World.block_lt_of_cell? wr _ hck)).trans hck)
      have c1 := cell_up hca
      have c2 := cell_up hcb
      have i1 : (0 : Int) ≤ (pt : Int) := by omega
      have i2 : (pt : Int) < (n : Int) := by omega
      obtain ⟨hTl, hTb⟩ := HTO.out j
      have HTB := Lib.hid hTb
      have HBO := Lib.hid hbo
      clear hrr hrw hTb hca hcb hbo
      go_wp2_with fail
      rw [← hwo]
      generalize hpb : wr.heap.size = pb at *
      clear hc1 hc2 hck hwo
      refine grow_begin (by kernel_rfl) ?_
      refine grow_take (by kernel_rfl) [0, 1, 2, 3, 4, 5, 6, 7] 5 _ _ (by kernel_rfl) ?_
      simp only [opsAt, List.getElem?_toArray, List.getElem?_cons_succ, List.getElem?_cons_zero]
      repeat (first | go_big_quiet_step (fail) | quiet_step (fail))
      refine wpQuiet_nil ?_
      intro w5 hw5
      have hb5 := below_of_up hw5
      clear c1 c2 c3 i1 i2
      refine grow_one 8 (by kernel_rfl) hw5 (fun K hK => ?_)
      simp only [stepOf, List.getElem?_toArray, List.getElem?_cons_succ, List.getElem?_cons_zero]
      go_simp
      go_at_call 21
      have HB5 : Hid (Below wr.heap.size wr w5) := by
        rw [hpb]
        exact HBO.out.trans (hb5.mono (by have := HBO.out.size; omega))
      have HAX : Hid (Calls Try.prog 21 #[.slice (some ⟨gt, 0, none⟩) m m, .slice ai m ci, .int .u8 (pc : Int)] w5 fun e w' => e = .returned (.tuple #[.slice (some ⟨w5.heap.size, 0, none⟩) m m, .int .i64 0]) ∧ NewTo w5 w' (T (j + 1)) m) := by
        have := axpy_same (some ⟨gt, 0, none⟩) ai m ci (T j) x pc w5 (by omega) hpc (by omega) (HO.out.sl.below HB5.out) (HSL.out.below HB5.out)
        rw [hTl, hxm, ← HSJ.out] at this
        exact this
      refine HAX.out.mono ?_
      rintro e w6 ⟨rfl, hn6⟩
      have hb56 := hn6.below
      refine hK.out _ _ hb56 ?_
      clear hK K HAX
      have HO6 : Hid (Rw 0 w6 (some ⟨w5.heap.size, 0, none⟩) m (T (j + 1))) := rw_of hn6 (HTO.out (j + 1)).1 (HTO.out (j + 1)).2 (by omega)
      have HB6 : Hid (Below wr.heap.size wr w6) := HB5.out.trans (hb56.mono HB5.out.size)
      clear hn6 hb56
      generalize w5.heap.size = g5 at *
      refine grow_take (by kernel_rfl) [9, 10, 11, 12] 0 _ _ (by kernel_rfl) ?_
      simp only [opsAt, List.getElem?_toArray, List.getElem?_cons_succ, List.getElem?_cons_zero]
      repeat (first | go_big_quiet_step (fail) | quiet_step (fail))
      refine wpQuiet_nil ?_
      intro w8 hw8
      have hb8 := below_of_up hw8
      have HO8 := Lib.hid (HO6.out.below hb8)
      have HB8 : Hid (Below w3.heap.size w3 w8) := HB.out.trans ((HB6.out.trans (hb8.mono HB6.out.size)).mono HB.out.size)
      refine grow_done (by kernel_rfl) ?_
      clear hb5 hw5 hw8 hb8 HO6 HB6
      go_wp2_with fail
      go_roundw
      case rel => exact ⟨j + 1, g5, by omega, by go_num, rfl, HO8, HB8⟩
      case measure => simp [intOf]; omega
    · obtain rfl : j = P.length := by omega
      go_wp2_with fail
      go_ret
      exact ⟨gt, rfl, HO.out, HBW.out⟩
end Go.Proofs.Ytgfcpneblkleiaa
