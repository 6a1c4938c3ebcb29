/-
  'Digest' of package sum, of no bytes.
-/
import Derived.Test.YthnodhlgfokfjaaDoorDigE
namespace Go.Proofs.YthnodhlgfokfjaaDoor
open Go.ChangeShapes Go.WideShapes Go.ChangeAt Go.RowKit
set_option linter.unusedVariables false

set_option maxRecDepth 100000 in
set_option maxHeartbeats 1000000 in
theorem digest_void (a : Option Addr) (cap : Nat) (x0 : S8) (HX0 : Hid (comp (padN []) ((padN []).length / 64) = x0)) (w : World) (hcm : cap ≤ maxLen) (hK : Ks w) (hS : Starts w) :
    Calls Tryd.prog 9 #[.slice a 0 cap] w fun e w' => e = .returned (.agg (rowArr 32 (spV x0))) ∧ Below w.heap.size w w' := by
  unfold maxLen at hcm
  have hlt := hK.lt
  have HK := Lib.hid hK
  have HS := Lib.hid hS
  clear hK hS
  obtain ⟨t0, fr0, hh0⟩ := HS.out
  have HST : Hid (∀ c : Array Value, (w.alloc (.cells c 27)).heap[0]? = some (.cells (rowArr 8 (stV start8)) t0 fr0)) := fun c => by rw [Below.heap_alloc _ _ _ (by omega)]; exact hh0
  clear hh0
  go_enter Tryd.func9, Tryd.ntmps9
  go_wp2_with (first | (refine wpList_load_row rfl 36 _ rfl 0 rfl t0 (rowArr 8 (stV start8)) fr0 _ (HST.out _) Tryd.underlying36 rfl (by rw [rowArr_size]; kernel_rfl) ?_) | (refine wpList_store_row rfl 36 _ _ rfl (w.heap.size + 1) (rowArr 8 (stV start8)) rfl rfl 36 _ (by simpa using heap_alloc_last (w.alloc _) _) (by rw [rowArr_size]; kernel_rfl) (by rw [rowArr_size]; rfl) (oneCell_st start8) ?_))
  go_loopw [5] (fun i wr => i = .int .i64 0 ∧ Hid (Dg w wr start8)) (fun i _ => 0)
  case atStart => exact ⟨rfl, ⟨Go.Proofs.YthnodhlgfokfjaaDoor.below_setRow (((Below.refl _ _).alloc (Nat.le_refl _) _).alloc (by simp) _) (by omega) _, Row.setRow_other ((Row.new' _ _ _ _ _ _ rfl rfl).alloc _) (by omega) _, Row.whole_set (k := 0) (g := zV) (Row.new' _ _ _ _ _ _ (by simp) rfl)⟩⟩
  case round =>
    obtain ⟨rfl, HD⟩ := hrel
    obtain ⟨l, HL⟩ : ∃ l : List Nat, Hid (l = []) := ⟨[], rfl⟩
    obtain ⟨k, HK0⟩ : ∃ k : Nat, Hid (k = 0) := ⟨0, rfl⟩
    obtain ⟨sz, HS0⟩ : ∃ k : Nat, Hid (k = 64) := ⟨64, rfl⟩
    have HB : Hid (IsByte l) := by rw [HL.out]; intro c hc; simp at hc
    have HKK : Hid (l.length / 64 = k) := by rw [HL.out, HK0.out]; rfl
    have HSZ : Hid ((padN l).length = 64 * k + sz) := by rw [HL.out, HK0.out, HS0.out]; rfl
    have HSM : Hid (sz % 64 = 0) := by rw [HS0.out]; rfl
    have hsz2 : sz ≤ 128 := by have := HS0.out; omega
    have HX : Hid (k + sz / 64 = (padN l).length / 64) := by rw [HL.out, HK0.out, HS0.out]; rfl
    rw [← HL.out] at HX0
    have HLT : Hid (w.heap.size + 1 < wr.heap.size) := HD.out.row.lt
    have HP0 : Hid (Calls Tryd.prog 15 #[.slice a 0 cap, .int .i64 0] wr fun e w' => e = .returned (.slice (some ⟨wr.heap.size, 0, none⟩) sz sz) ∧ Pad wr w' (l.drop (64 * k)) l.length sz 8) := by
      rw [HL.out, HK0.out, HS0.out]
      exact pad64 a cap [] 0 wr (by simp) (by omega) (by intro c hc; simp at hc) (.inl rfl)
    have HDk : Hid (Dg w wr (comp (padN l) k)) := by rw [HK0.out]; exact HD.out
    clear HD
    rcases a with _ | ad
    · go_wp2_with fail
      (with_reducible refine HP0.out.mono ?_)
      clear HP0
      rintro e w6 ⟨rfl, hpd⟩
      have HRT := Lib.hid hpd.row
      have HD6 : Hid (Dg w w6 (comp (padN l) k)) := ⟨HDk.out.below.trans (hpd.below.mono HDk.out.below.size), HDk.out.out.below hpd.below HDk.out.out.lt, HDk.out.row.below hpd.below HDk.out.row.lt⟩
      clear hpd HDk
      generalize wr.heap.size = B at *
      go_wp2_with fail
      go_loopw [7] (fun i wq => ∃ j t : Nat, Hid (t = 64 * j) ∧ t ≤ sz ∧ i = .int .i64 (t : Int) ∧ Hid (Dg w wq (comp (padN l) (k + j))) ∧ Hid (Row wq B 5 sz sz (tlV (l.drop (64 * k)) l.length sz 8))) (fun i _ => sz - (intOf i).toNat)
      case atStart => exact ⟨0, 0, rfl, by omega, rfl, HD6, HRT⟩
      case round =>
        obtain ⟨j, t, HT2, ht2, rfl, HDq, HRq⟩ := hrel
        by_cases hlt3 : t < sz
        · have ht64 : t + 64 ≤ sz := by have := HT2.out; have := HSM.out; omega
          have hrow := HDq.out.row
          have hok := comp_ok (padN l) (k + j)
          have hnx : mixN (comp (padN l) (k + j)) (fun i => (padN l).getD (64 * k + t + i) 0) = comp (padN l) (k + (j + 1)) := by
            rw [HT2.out, show 64 * k + 64 * j = 64 * (k + j) by omega]; rfl
          have HNX := Lib.hid hnx
          clear hnx
          generalize comp (padN l) (k + j) = x at *
          have q0 : wr.cell? ⟨w.heap.size + 1, 0, none⟩ = some (.int .u32 (x.p : Int)) := hrow.cell 0 (by omega)
          have q1 : wr.cell? ⟨w.heap.size + 1, 1, none⟩ = some (.int .u32 (x.q : Int)) := hrow.cell 1 (by omega)
          have q2 : wr.cell? ⟨w.heap.size + 1, 2, none⟩ = some (.int .u32 (x.r : Int)) := hrow.cell 2 (by omega)
          have q3 : wr.cell? ⟨w.heap.size + 1, 3, none⟩ = some (.int .u32 (x.s : Int)) := hrow.cell 3 (by omega)
          have q4 : wr.cell? ⟨w.heap.size + 1, 4, none⟩ = some (.int .u32 (x.t : Int)) := hrow.cell 4 (by omega)
          have q5 : wr.cell? ⟨w.heap.size + 1, 5, none⟩ = some (.int .u32 (x.u : Int)) := hrow.cell 5 (by omega)
          have q6 : wr.cell? ⟨w.heap.size + 1, 6, none⟩ = some (.int .u32 (x.v : Int)) := hrow.cell 6 (by omega)
          have q7 : wr.cell? ⟨w.heap.size + 1, 7, none⟩ = some (.int .u32 (x.w : Int)) := hrow.cell 7 (by omega)
          have HM : Hid (Calls Tryd.prog 14 #[.agg #[.int .u32 (x.p : Int), .int .u32 (x.q : Int), .int .u32 (x.r : Int), .int .u32 (x.s : Int), .int .u32 (x.t : Int), .int .u32 (x.u : Int), .int .u32 (x.v : Int), .int .u32 (x.w : Int)], .slice (some ⟨B, t, none⟩) 64 (sz - t)] wr.drew
            fun e w' => e = .returned (.agg (rowArr 8 (stV (comp (padN l) (k + (j + 1)))))) ∧ Below wr.drew.heap.size wr.drew w') := by
              rw [← HNX.out]
              exact mix_at B t (sz - t) _ x hok wr.drew (getD_byte (padN_byte HB.out) (64 * k + t)) (block_of_tail (HRq.out.drew 1) HKK.out HSZ.out t ht64) (HK.out.below hlt HDq.out.below.drew)
          have s1 : IntKind.i64.wrap ((t : Int) + 64) = (t : Int) + 64 := IntWalk.i64_in _ (by omega)
          have s2 : ((t : Int) + 64).toNat = t + 64 := by omega
          have s3 : (0 : Int) ≤ (t : Int) + 64 := by omega
          have s4 : (t : Int) ≤ (t : Int) + 64 := by omega
          have s5 : (t : Int) + 64 ≤ (sz : Int) := by omega
          have s6 : ¬ sz = t := by omega
          have s7 : t + 64 - t = 64 := by omega
          have hd3 : decide ((t : Int) < (sz : Int)) = true := by simp; omega
          clear hrow
          go_wp2_with fail
          refine wp_region_still_tail 6 (by kernel_rfl) (by kernel_rfl) ?_
          simp only [List.take_succ_cons, List.take_zero, List.drop_succ_cons, List.drop_zero]
          repeat still_step
          refine wpStill_nil ?_
          change wpList _ _ _ _ _ wr.drew
          clear q0 q1 q2 q3 q4 q5 q6 q7 s1 s2 s3 s4 s5 s6 s7
          go_wp2_with (first | (go_at_call 14; (refine HM.out.mono ?_); rintro e w5 ⟨rfl, b5⟩; have HO5 : Hid (w5.heap[w.heap.size + 1]? = some (.cells (rowArr 8 (stV x)) 36 (0, 0))) := (HDq.out.drew 1).old b5; have HD5 : Hid (Dg w (w5.setRow (w.heap.size + 1) (rowArr 8 (stV (comp (padN l) (k + (j + 1)))))) (comp (padN l) (k + (j + 1)))) := (HDq.out.drew 1).next b5; have HR5 : Hid (Row (w5.setRow (w.heap.size + 1) (rowArr 8 (stV (comp (padN l) (k + (j + 1)))))) B 5 sz sz (tlV (l.drop (64 * k)) l.length sz 8)) := ((HRq.out.drew 1).below b5 (HRq.out.drew 1).lt).setRow_other (by have := HLT.out; omega) _; clear b5) | (refine wpList_store_row rfl 36 _ _ rfl (w.heap.size + 1) (rowArr 8 (stV (comp (padN l) (k + (j + 1))))) rfl rfl 36 _ HO5.out (by rw [rowArr_size]; kernel_rfl) (by rw [rowArr_size, rowArr_size]) (oneCell_st _) ?_))
          go_roundw
          case rel => exact ⟨j + 1, t + 64, by have := HT2.out; show _ = _; omega, by omega, by go_num, HD5, HR5⟩
          case measure => simp [intOf]; omega
        · have hts : t = sz := by omega
          subst hts
          have hkj : k + j = (padN l).length / 64 := by have := HX.out; have := HT2.out; omega
          rw [hkj, HX0.out] at HDq
          have hok : x0.Ok := by rw [← HX0.out]; exact comp_ok (padN l) ((padN l).length / 64)
          have HWH := Lib.hid HDq.out.row.whole
          have HSP := Lib.hid (spell_any x0 hok wr)
          have HKJ := Lib.hid hkj
          clear hkj
          go_wp2_with (first | (refine wpList_load_row rfl 36 _ rfl (w.heap.size + 1) rfl 36 (rowArr 8 (stV x0)) (0, 0) _ HWH.out Tryd.underlying36 rfl (by rw [rowArr_size]; kernel_rfl) ?_) | (go_at_call 16; (refine HSP.out.mono ?_); rintro e w7 ⟨rfl, b7⟩; obtain ⟨old, ho1, ho2, _⟩ := HDq.out.out.below b7 HDq.out.out.lt; have HO := Lib.hid ho1; have HO2 := Lib.hid ho2; have HB7 : Hid (Below w.heap.size w w7) := HDq.out.below.trans (b7.mono HDq.out.below.size); clear b7 ho1 ho2) | (refine wpList_store_row rfl 27 _ _ rfl w.heap.size (rowArr 32 (spV x0)) rfl rfl 27 _ HO.out (by rw [rowArr_size]; kernel_rfl) (by rw [rowArr_size]; exact HO2.out) (oneCell_sp x0 32) ?_))
          exact bodyPost_ret (v := .agg (rowArr 32 (spV x0))) (results_cell_row rfl _ _ w.heap.size 27 (rowArr 32 (spV x0)) (0, 0) _ rfl (setRow_heap _ _ _ _ _ _ HO.out) Tryd.underlying27 rfl (by rw [rowArr_size]; kernel_rfl)) rfl ⟨rfl, Go.Proofs.YthnodhlgfokfjaaDoor.below_setRow HB7.out (Nat.le_refl _) _⟩
    · go_wp2_with fail
      (with_reducible refine HP0.out.mono ?_)
      clear HP0
      rintro e w6 ⟨rfl, hpd⟩
      have HRT := Lib.hid hpd.row
      have HD6 : Hid (Dg w w6 (comp (padN l) k)) := ⟨HDk.out.below.trans (hpd.below.mono HDk.out.below.size), HDk.out.out.below hpd.below HDk.out.out.lt, HDk.out.row.below hpd.below HDk.out.row.lt⟩
      clear hpd HDk
      generalize wr.heap.size = B at *
      go_wp2_with fail
      go_loopw [7] (fun i wq => ∃ j t : Nat, Hid (t = 64 * j) ∧ t ≤ sz ∧ i = .int .i64 (t : Int) ∧ Hid (Dg w wq (comp (padN l) (k + j))) ∧ Hid (Row wq B 5 sz sz (tlV (l.drop (64 * k)) l.length sz 8))) (fun i _ => sz - (intOf i).toNat)
      case atStart => exact ⟨0, 0, rfl, by omega, rfl, HD6, HRT⟩
      case round =>
        obtain ⟨j, t, HT2, ht2, rfl, HDq, HRq⟩ := hrel
        by_cases hlt3 : t < sz
        · have ht64 : t + 64 ≤ sz := by have := HT2.out; have := HSM.out; omega
          have hrow := HDq.out.row
          have hok := comp_ok (padN l) (k + j)
          have hnx : mixN (comp (padN l) (k + j)) (fun i => (padN l).getD (64 * k + t + i) 0) = comp (padN l) (k + (j + 1)) := by
            rw [HT2.out, show 64 * k + 64 * j = 64 * (k + j) by omega]; rfl
          have HNX := Lib.hid hnx
          clear hnx
          generalize comp (padN l) (k + j) = x at *
          have q0 : wr.cell? ⟨w.heap.size + 1, 0, none⟩ = some (.int .u32 (x.p : Int)) := hrow.cell 0 (by omega)
          have q1 : wr.cell? ⟨w.heap.size + 1, 1, none⟩ = some (.int .u32 (x.q : Int)) := hrow.cell 1 (by omega)
          have q2 : wr.cell? ⟨w.heap.size + 1, 2, none⟩ = some (.int .u32 (x.r : Int)) := hrow.cell 2 (by omega)
          have q3 : wr.cell? ⟨w.heap.size + 1, 3, none⟩ = some (.int .u32 (x.s : Int)) := hrow.cell 3 (by omega)
          have q4 : wr.cell? ⟨w.heap.size + 1, 4, none⟩ = some (.int .u32 (x.t : Int)) := hrow.cell 4 (by omega)
          have q5 : wr.cell? ⟨w.heap.size + 1, 5, none⟩ = some (.int .u32 (x.u : Int)) := hrow.cell 5 (by omega)
          have q6 : wr.cell? ⟨w.heap.size + 1, 6, none⟩ = some (.int .u32 (x.v : Int)) := hrow.cell 6 (by omega)
          have q7 : wr.cell? ⟨w.heap.size + 1, 7, none⟩ = some (.int .u32 (x.w : Int)) := hrow.cell 7 (by omega)
          have HM : Hid (Calls Tryd.prog 14 #[.agg #[.int .u32 (x.p : Int), .int .u32 (x.q : Int), .int .u32 (x.r : Int), .int .u32 (x.s : Int), .int .u32 (x.t : Int), .int .u32 (x.u : Int), .int .u32 (x.v : Int), .int .u32 (x.w : Int)], .slice (some ⟨B, t, none⟩) 64 (sz - t)] wr.drew
            fun e w' => e = .returned (.agg (rowArr 8 (stV (comp (padN l) (k + (j + 1)))))) ∧ Below wr.drew.heap.size wr.drew w') := by
              rw [← HNX.out]
              exact mix_at B t (sz - t) _ x hok wr.drew (getD_byte (padN_byte HB.out) (64 * k + t)) (block_of_tail (HRq.out.drew 1) HKK.out HSZ.out t ht64) (HK.out.below hlt HDq.out.below.drew)
          have s1 : IntKind.i64.wrap ((t : Int) + 64) = (t : Int) + 64 := IntWalk.i64_in _ (by omega)
          have s2 : ((t : Int) + 64).toNat = t + 64 := by omega
          have s3 : (0 : Int) ≤ (t : Int) + 64 := by omega
          have s4 : (t : Int) ≤ (t : Int) + 64 := by omega
          have s5 : (t : Int) + 64 ≤ (sz : Int) := by omega
          have s6 : ¬ sz = t := by omega
          have s7 : t + 64 - t = 64 := by omega
          have hd3 : decide ((t : Int) < (sz : Int)) = true := by simp; omega
          clear hrow
          go_wp2_with fail
          refine wp_region_still_tail 6 (by kernel_rfl) (by kernel_rfl) ?_
          simp only [List.take_succ_cons, List.take_zero, List.drop_succ_cons, List.drop_zero]
          repeat still_step
          refine wpStill_nil ?_
          change wpList _ _ _ _ _ wr.drew
          clear q0 q1 q2 q3 q4 q5 q6 q7 s1 s2 s3 s4 s5 s6 s7
          go_wp2_with (first | (go_at_call 14; (refine HM.out.mono ?_); rintro e w5 ⟨rfl, b5⟩; have HO5 : Hid (w5.heap[w.heap.size + 1]? = some (.cells (rowArr 8 (stV x)) 36 (0, 0))) := (HDq.out.drew 1).old b5; have HD5 : Hid (Dg w (w5.setRow (w.heap.size + 1) (rowArr 8 (stV (comp (padN l) (k + (j + 1)))))) (comp (padN l) (k + (j + 1)))) := (HDq.out.drew 1).next b5; have HR5 : Hid (Row (w5.setRow (w.heap.size + 1) (rowArr 8 (stV (comp (padN l) (k + (j + 1)))))) B 5 sz sz (tlV (l.drop (64 * k)) l.length sz 8)) := ((HRq.out.drew 1).below b5 (HRq.out.drew 1).lt).setRow_other (by have := HLT.out; omega) _; clear b5) | (refine wpList_store_row rfl 36 _ _ rfl (w.heap.size + 1) (rowArr 8 (stV (comp (padN l) (k + (j + 1))))) rfl rfl 36 _ HO5.out (by rw [rowArr_size]; kernel_rfl) (by rw [rowArr_size, rowArr_size]) (oneCell_st _) ?_))
          go_roundw
          case rel => exact ⟨j + 1, t + 64, by have := HT2.out; show _ = _; omega, by omega, by go_num, HD5, HR5⟩
          case measure => simp [intOf]; omega
        · have hts : t = sz := by omega
          subst hts
          have hkj : k + j = (padN l).length / 64 := by have := HX.out; have := HT2.out; omega
          rw [hkj, HX0.out] at HDq
          have hok : x0.Ok := by rw [← HX0.out]; exact comp_ok (padN l) ((padN l).length / 64)
          have HWH := Lib.hid HDq.out.row.whole
          have HSP := Lib.hid (spell_any x0 hok wr)
          have HKJ := Lib.hid hkj
          clear hkj
          go_wp2_with (first | (refine wpList_load_row rfl 36 _ rfl (w.heap.size + 1) rfl 36 (rowArr 8 (stV x0)) (0, 0) _ HWH.out Tryd.underlying36 rfl (by rw [rowArr_size]; kernel_rfl) ?_) | (go_at_call 16; (refine HSP.out.mono ?_); rintro e w7 ⟨rfl, b7⟩; obtain ⟨old, ho1, ho2, _⟩ := HDq.out.out.below b7 HDq.out.out.lt; have HO := Lib.hid ho1; have HO2 := Lib.hid ho2; have HB7 : Hid (Below w.heap.size w w7) := HDq.out.below.trans (b7.mono HDq.out.below.size); clear b7 ho1 ho2) | (refine wpList_store_row rfl 27 _ _ rfl w.heap.size (rowArr 32 (spV x0)) rfl rfl 27 _ HO.out (by rw [rowArr_size]; kernel_rfl) (by rw [rowArr_size]; exact HO2.out) (oneCell_sp x0 32) ?_))
          exact bodyPost_ret (v := .agg (rowArr 32 (spV x0))) (results_cell_row rfl _ _ w.heap.size 27 (rowArr 32 (spV x0)) (0, 0) _ rfl (setRow_heap _ _ _ _ _ _ HO.out) Tryd.underlying27 rfl (by rw [rowArr_size]; kernel_rfl)) rfl ⟨rfl, Go.Proofs.YthnodhlgfokfjaaDoor.below_setRow HB7.out (Nat.le_refl _) _⟩

theorem digest_any (a : Option Addr) (cap : Nat) (l : List Nat) (w : World) (hl : l.length ≤ 1000000) (hlc : l.length ≤ cap) (hcm : cap ≤ maxLen) (hb : IsByte l) (hc : BytesAt w a l) (hK : Ks w) (hS : Starts w) :
    Calls Tryd.prog 9 #[.slice a l.length cap] w fun e w' => e = .returned (.agg (rowArr 32 (spV (comp (padN l) ((padN l).length / 64))))) ∧ Below w.heap.size w w' := by
  rcases hc with rfl | ⟨b, off, rfl, hc⟩
  · exact digest_void a cap _ rfl w hcm hK hS
  · exact digest_some b off cap l w hl hlc hcm hb hc hK hS

end Go.Proofs.YthnodhlgfokfjaaDoor
