/-
  Package packet: Decode, and that what it gives lies in new memory.
  Packets found among bytes: as a plain relation, and as a row that is made by append.
  Package packet: Find.
  The document's Bodies: rows of kinds and of bodies.
-/
import Derived.Test.YtfgaohilpbocbaaGreatDoorMm22
import Derived.Great.Walk
section
namespace Go.Proofs.YtfgaohilpbocbaaGreatDoor
open Go.ChangeShapes Go.WideShapes Go.ChangeAt Go.RowKit Go.Joins
set_option linter.unusedVariables false

def DecAnsN (w0 w' : World) (e : Ending) : Dec → Prop
  | .ok p n => ∃ sa sc da dc, e = .returned (.tuple #[.agg (rowArr 51 (pkV p sa sc da dc)), .int .i64 (n : Int), .int .i64 0]) ∧ PkAt w' p sa sc da dc ∧ (∀ q, sa = some q → w0.heap.size ≤ q.block) ∧ ∀ q, da = some q → w0.heap.size ≤ q.block
  | .form => e = .returned (.tuple #[.agg (rowArr 51 (pkV zPk none 0 none 0)), .int .i64 0, .int .i64 2])
  | .sum => e = .returned (.tuple #[.agg (rowArr 51 (pkV zPk none 0 none 0)), .int .i64 0, .int .i64 11])
def DecNew (l : List Nat) (w : World) (e : Ending) (w' : World) : Prop := DecAnsN w w' e (decN l) ∧ Below w.heap.size w w'

set_option maxRecDepth 1000000 in
set_option maxHeartbeats 8000000 in
theorem decode_new (a : Option Addr) (c : Nat) (l : List Nat) (w : World) (hs : Sl w a c l) (hl : l.length ≤ 60000) (ht : Tabs w) :
    Calls Tryz.prog 44 #[.slice a l.length c] w (DecNew l w) := by
  have mixed : Tryz.prog.follows .mixedOrders = true := by kernel_rfl
  have hlm := hs.lt
  have hcm : c ≤ 9223372036854775807 := by have := hs.most; unfold maxLen at this; omega
  have HS := Lib.hid hs
  have HT := Lib.hid ht
  clear hs ht
  go_enter Tryz.func44, Tryz.ntmps44
  go_upto_region 1 with fail
  change Code.wp _ _ _ _ (w.alloc (.cells (rowArr 51 (pkV zPk none 0 none 0)) 100))
  have hHR : (w.alloc (.cells (rowArr 51 (pkV zPk none 0 none 0)) 100)).heap[w.heap.size]? = some (.cells (rowArr 51 (pkV zPk none 0 none 0)) 100 (0, 0)) := heap_alloc_last w _
  have hb0 : Below w.heap.size w (w.alloc (.cells (rowArr 51 (pkV zPk none 0 none 0)) 100)) := (Below.refl _ _).alloc (Nat.le_refl _) _
  have HRB := Lib.hid hHR
  have HB0 := Lib.hid hb0
  obtain ⟨R, hR⟩ : ∃ R, R = w.heap.size := ⟨_, rfl⟩
  have hwR : w.heap.size ≤ R := by omega
  rw [← hR] at HRB ⊢
  generalize w.alloc (.cells (rowArr 51 (pkV zPk none 0 none 0)) 100) = w0 at *
  clear hHR hb0 hR
  have HC := Lib.hid (claimed_any a c l w0 (HS.out.below HB0.out) hl)
  go_wp2_with fail
  (with_reducible refine HC.out.mono ?_)
  rintro e w1 ⟨rfl, b1⟩
  have HB1 : Hid (Below w.heap.size w w1) := HB0.out.trans (b1.mono HB0.out.size)
  have HR1 : Hid (w1.heap[R]? = some (.cells (rowArr 51 (pkV zPk none 0 none 0)) 100 (0, 0))) := (b1.block R (Array.getElem?_eq_some_iff.1 HRB.out).1).trans HRB.out
  clear b1 HC HB0 HRB
  by_cases q : claimN l = 0
  · have HD : Hid (decN l = .form) := by show _ = _; unfold decN; rw [if_pos q]
    rw [q]
    clear q
    go_upto_region 3 with fail
    go_wp2_with (refine wpList_store_arr rfl 100 _ _ rfl R _ rfl rfl 100 _ HR1.out (by kernel_rfl) ((rowArr_size _ _).trans rfl) (oneCell_pk zPk none 0 none 0) ?_; intro wz HCy hfz; have HCz : Hid (wz.heap[R]? = some (.cells (rowArr 51 (pkV zPk none 0 none 0)) 100 (0, 0))) := HCy; clear HCy)
    have HBz : Hid (Below w.heap.size w wz) := HB1.out.trans (hfz.out.below HB1.out.size fun k hk e => by omega)
    exact bodyPost_ret (v := .tuple #[.agg (rowArr 51 (pkV zPk none 0 none 0)), .int .i64 0, .int .i64 2]) (results_cell_tmp2 rfl _ _ R 100 _ (0, 0) _ rfl HCz.out Tryz.underlying100 rfl (by rw [rowArr_size]; kernel_rfl) (.int .i64 0) (.int .i64 2) rfl rfl) rfl ⟨by rw [HD.out]; rfl, HBz.out⟩
  · obtain ⟨hc1, hc2, hc3, hc4⟩ := claimN_le q
    have HCQ := Lib.hid q
    obtain ⟨b, off, rfl, _⟩ := HS.out.some (k := 0) (by omega)
    have HS1 := Lib.hid (HS.out.below HB1.out)
    have HT1 := Lib.hid (HT.out.below HB1.out)
    clear HS HT
    obtain ⟨k1, k2⟩ := cut_mid HS1.out 8 (claimN l) (by omega) hc2 (by omega) 8 (claimN l : Int) rfl rfl
    obtain ⟨k3, k4⟩ := cut_mid HS1.out 48 (claimN l) (by omega) hc2 (by omega) 48 (claimN l : Int) rfl rfl
    obtain ⟨M, hM⟩ : ∃ M, M = (l.drop 8).take (claimN l - 8) := ⟨_, rfl⟩
    have hMl : M.length = claimN l - 8 := by rw [hM]; exact mid_len hc2
    have HSET : Hid (M.take 8 = setN l) := by
      show _ = _
      rw [hM, List.take_take, Nat.min_eq_left (by omega)]
      rfl
    have HSUM : Hid ((M.drop 8).take 32 = sumD l) := by
      show _ = _
      rw [hM, List.drop_take, List.drop_drop, List.take_take, Nat.min_eq_left (by omega)]
      rfl
    have HKB : Hid (M.drop 40 = kbD l (claimN l)) := by
      show _ = _
      rw [hM, List.drop_take, List.drop_drop]
      unfold kbD
      congr 1
    have h8 : (setN l).length = 8 := by unfold setN; rw [List.length_take, List.length_drop]; omega
    have h32 : (sumD l).length = 32 := by unfold sumD; rw [List.length_take, List.length_drop]; omega
    have hkl : (kbD l (claimN l)).length = claimN l - 48 := by unfold kbD; rw [List.length_take, List.length_drop]; omega
    have b8 : IsByte (setN l) := fun y hy => HS1.out.byte y (List.mem_of_mem_drop (List.mem_of_mem_take hy))
    have b32 : IsByte (sumD l) := fun y hy => HS1.out.byte y (List.mem_of_mem_drop (List.mem_of_mem_take hy))
    have hkb : (l.drop 48).take (claimN l - 48) = kbD l (claimN l) := rfl
    rw [← hM] at k2
    rw [hkb] at k4
    have HDN : Hid (decN l = match rdN (setN l) (kbD l (claimN l)) with | none => .form | some p => if sumD l = dgN (setN l ++ kbD l (claimN l)) then .ok p (claimN l) else .sum) := by
      show _ = _
      unfold decN
      rw [if_neg q]
      rfl
    obtain ⟨n, hn⟩ : ∃ n, n = claimN l := ⟨_, rfl⟩
    rw [← hn] at hc1 hc2 k1 k3 k4 hMl HKB hkl HDN ⊢
    obtain ⟨set, hset⟩ : ∃ set, set = setN l := ⟨_, rfl⟩
    obtain ⟨sm, hsm⟩ : ∃ sm, sm = sumD l := ⟨_, rfl⟩
    obtain ⟨kb, hkbe⟩ : ∃ kb, kb = kbD l n := ⟨_, rfl⟩
    rw [← hset] at HSET h8 b8 HDN
    rw [← hsm] at HSUM h32 b32 HDN
    rw [← hkbe] at HKB hkl HDN k4
    have H8 := Lib.hid h8
    have H32 := Lib.hid h32
    have HKL := Lib.hid hkl
    have B8 := Lib.hid b8
    have B32 := Lib.hid b32
    have HML := Lib.hid hMl
    have HK4 := Lib.hid k4
    have HNW := Lib.hid (inNew_any w1 _ _ M k2 (by omega))
    rw [hMl] at HNW
    have hn0 : ((n : Int) == 0) = false := by rw [beq_eq_false_iff_ne]; omega
    clear hM hMl h8 h32 hkl b8 b32 hkb k2 k4 hn hset hsm hkbe hc3 hc4 q HCQ
    go_wp2_with fail
    (with_reducible refine HNW.out.mono ?_)
    rintro e w2 ⟨ib, X, rfl, hin, hbw⟩
    have HI2 := Lib.hid hin
    have hX : ∀ j, X j → w1.heap.size ≤ j ∧ j < w2.heap.size := hin.2.1
    have HB2 : Hid (Below w.heap.size w w2) := HB1.out.trans (hbw.mono HB1.out.size)
    have HR2 : Hid (w2.heap[R]? = some (.cells (rowArr 51 (pkV zPk none 0 none 0)) 100 (0, 0))) := (hbw.block R (Array.getElem?_eq_some_iff.1 HR1.out).1).trans HR1.out
    have hRX : ¬ X R := fun h => by have := (hX R h).1; have := (Array.getElem?_eq_some_iff.1 HR1.out).1; omega
    have h12 : w.heap.size ≤ w1.heap.size := HB1.out.size
    have h12b : w1.heap.size ≤ w2.heap.size := hbw.size
    have HB12 := Lib.hid hbw
    clear hin hbw HNW HB1 HR1 HS1
    go_upto_region 6 with fail
    change Code.wp _ _ _ _ (w2.alloc (.cells (rowArr 51 (pkV zPk none 0 none 0)) 100))
    have hHP : (w2.alloc (.cells (rowArr 51 (pkV zPk none 0 none 0)) 100)).heap[w2.heap.size]? = some (.cells (rowArr 51 (pkV zPk none 0 none 0)) 100 (0, 0)) := heap_alloc_last w2 _
    have hbP : Below w2.heap.size w2 (w2.alloc (.cells (rowArr 51 (pkV zPk none 0 none 0)) 100)) := (Below.refl _ _).alloc (Nat.le_refl _) _
    have hsP : (w2.alloc (.cells (rowArr 51 (pkV zPk none 0 none 0)) 100)).heap.size = w2.heap.size + 1 := by simp
    have HHP := Lib.hid hHP
    have HBP := Lib.hid hbP
    have HSP := Lib.hid hsP
    obtain ⟨P, hP⟩ : ∃ P, P = w2.heap.size := ⟨_, rfl⟩
    rw [← hP] at HHP HSP hX ⊢
    have hP2 : P ≤ w2.heap.size := by omega
    have hP3 : w2.heap.size ≤ P := by omega
    generalize w2.alloc (.cells (rowArr 51 (pkV zPk none 0 none 0)) 100) = w3 at *
    clear hHP hbP hsP hP
    go_upto_region 7 with fail
    change Code.wp _ _ _ _ (w3.alloc (.cells z32 50))
    have hHD : (w3.alloc (.cells z32 50)).heap[w3.heap.size]? = some (.cells z32 50 (0, 0)) := heap_alloc_last w3 _
    have hbD : Below w3.heap.size w3 (w3.alloc (.cells z32 50)) := (Below.refl _ _).alloc (Nat.le_refl _) _
    rw [HSP.out] at hHD ⊢
    have HHD := Lib.hid hHD
    have HBD := Lib.hid hbD
    generalize w3.alloc (.cells z32 50) = w4 at *
    clear hHD hbD
    have h23 : w2.heap.size ≤ w3.heap.size := HBP.out.size
    have HB24 : Hid (Below w2.heap.size w2 w4) := HBP.out.trans (HBD.out.mono h23)
    have hPX : ¬ X P := fun h => by have := (hX P h).2; omega
    have hDX : ¬ X (P + 1) := fun h => by have := (hX _ h).2; omega
    have hRP : R ≠ P := by have := (Array.getElem?_eq_some_iff.1 HR2.out).1; omega
    have hRD : R ≠ P + 1 := by have := (Array.getElem?_eq_some_iff.1 HR2.out).1; omega
    have HRR : Hid (Row w4 R 100 51 51 (pkV zPk none 0 none 0)) := Row.of_whole ((HB24.out.block R (Array.getElem?_eq_some_iff.1 HR2.out).1).trans HR2.out)
    have HRP : Hid (Row w4 P 100 51 51 (pkV zPk none 0 none 0)) := Row.of_whole ((HBD.out.block P (Array.getElem?_eq_some_iff.1 HHP.out).1).trans HHP.out)
    have HRD : Hid (Row w4 (P + 1) 50 32 32 (fun _ => .int .u8 0)) := Row.of_whole HHD.out
    have HI4 : Hid (InAt w1.heap.size X w4 ib (some M)) := HI2.out.keep (Fr.of_below (X := fun _ => False) HB24.out) fun _ _ h => h
    have HB4 : Hid (Below w.heap.size w w4) := HB2.out.trans (HB24.out.mono HB2.out.size)
    have HB14 : Hid (Below w1.heap.size w1 w4) := HB12.out.trans (HB24.out.mono h12b)
    have HNRX := Lib.hid hRX
    have HNPX := Lib.hid hPX
    have HNDX := Lib.hid hDX
    have HXX := Lib.hid hX
    clear HR2 HI2 HB2 HHP HHD HBP HBD hRX hPX hDX hX HSP HB12
    -- the name
    obtain ⟨wd, hwd⟩ : ∃ wd, wd = w4.drew := ⟨_, rfl⟩
    have HBd : Hid (Below w4.heap.size w4 wd) := by rw [hwd]; exact (Below.refl _ _).drew
    have HRW := Lib.hid (inR_read (l := M) (HI4.out.keep (Fr.of_below (X := fun _ => False) HBd.out) fun _ _ h => h) 8 8 rfl (by rw [HML.out]; omega))
    rw [HSET.out] at HRW
    refine growK_begin 4 (fun w' => ∃ u : KeepW wd X, w' = u.v) (by kernel_rfl) ?_
    rw [← hwd]
    clear hwd
    refine growK_take (by kernel_rfl) [0, 1, 2] 2 _ _ (by kernel_rfl) _ (keep_class (Fr.refl _ _)) ?_
    simp only [opsAt, List.getElem?_toArray, List.getElem?_cons_succ, List.getElem?_cons_zero]
    repeat (first | go_big_quiet_step (fail) | quiet_step (fail))
    refine wpQuiet_nil ?_
    refine growK_one 3 (by kernel_rfl) (fun K hK => ?_)
    simp only [stepOf, List.getElem?_toArray, List.getElem?_cons_succ, List.getElem?_cons_zero]
    go_simp
    go_at_call 86
    (with_reducible refine HRW.out.mono ?_)
    rintro e w5 ⟨⟨sa', sc', rfl, hs, hnew⟩, hi, hf⟩
    have HF5 : Hid (Fr X w4 w5) := (Fr.of_below HBd.out).trans hf
    have HI5 := Lib.hid hi
    have HS5 := Lib.hid hs
    have HRP5 := Lib.hid (HRP.out.fr HF5.out HNPX.out)
    have HRD5 := Lib.hid (HRD.out.fr HF5.out HNDX.out)
    have HRR5 := Lib.hid (HRR.out.fr HF5.out HNRX.out)
    refine hK.out _ _ (keep_class hf) ?_
    clear hK K hs hnew hi hf HRW HI4 HRP HRD HRR HBd
    refine growK_last (by kernel_rfl) (by kernel_rfl) (fun K hK => ?_)
    simp only [stepOf, List.getElem?_toArray, List.getElem?_cons_succ, List.getElem?_cons_zero]
    rw [if_pos (by rfl)]
    refine wp_copyB _ (.tmp 19) (.tmp 21) rfl P 0 51 51 51 8 8 (pkV zPk none 0 none 0) (pkV ⟨set, 0, 0, 0, 0, 0, zFil, [], 0, []⟩ none 0 none 0) 100 rfl sa' sc' 8 set rfl H8.out HRP5.out HS5.out (by rw [H8.out]; exact Nat.le_refl _) (by omega) (Nat.le_refl _) (fun j hj => ?_) ?_
    · rw [H8.out]
      by_cases hj8 : j < 8
      · exact .inl ⟨Nat.zero_le _, by omega, by rw [pkV_set _ _ _ _ _ hj8]; rfl⟩
      · refine .inr ⟨by omega, hj, ?_⟩
        unfold pkV
        rw [if_neg hj8, if_neg hj8]
        rfl
    intro w6 hr6 hf6
    have HF6 : Hid (Fr (fun j => X j ∨ j = P) w4 w6) := (HF5.out.mono fun j _ hj => .inl hj).trans (hf6.out.mono fun j _ hj => .inr hj)
    have HI6 := Lib.hid (HI5.out.keep hf6.out fun j hj e => HNPX.out (e ▸ hj))
    have HRD6 := Lib.hid (HRD5.out.fr hf6.out (by omega))
    have HRR6 := Lib.hid (HRR5.out.fr hf6.out hRP)
    have HRP6 := hr6
    clear hr6 hf6 HS5 HI5 HRD5 HRR5 HRP5 HF5
    refine hK.out _ _ ?_
    clear hK K
    -- the digest
    go_upto_region 8 with fail
    obtain ⟨wd, hwd⟩ : ∃ wd, wd = w6.drew := ⟨_, rfl⟩
    have HBd : Hid (Below w6.heap.size w6 wd) := by rw [hwd]; exact (Below.refl _ _).drew
    have HRW := Lib.hid (inR_read (l := M.drop 8) (HI6.out.keep (Fr.of_below (X := fun _ => False) HBd.out) fun _ _ h => h) 32 32 rfl (by rw [List.length_drop, HML.out]; omega))
    rw [HSUM.out, List.drop_drop] at HRW
    refine growK_begin 3 (fun w' => ∃ u : KeepW wd X, w' = u.v) (by kernel_rfl) ?_
    rw [← hwd]
    clear hwd
    refine growK_take (by kernel_rfl) [0, 1] 2 _ _ (by kernel_rfl) _ (keep_class (Fr.refl _ _)) ?_
    simp only [opsAt, List.getElem?_toArray, List.getElem?_cons_succ, List.getElem?_cons_zero]
    repeat (first | go_big_quiet_step (fail) | quiet_step (fail))
    refine wpQuiet_nil ?_
    refine growK_one 2 (by kernel_rfl) (fun K hK => ?_)
    simp only [stepOf, List.getElem?_toArray, List.getElem?_cons_succ, List.getElem?_cons_zero]
    go_simp
    go_at_call 86
    (with_reducible refine HRW.out.mono ?_)
    rintro e w7 ⟨⟨sa', sc', rfl, hs, hnew⟩, hi, hf⟩
    have hf' : Fr X w6 w7 := (Fr.of_below HBd.out).trans hf
    have HF7 : Hid (Fr (fun j => X j ∨ j = P) w4 w7) := HF6.out.trans (hf'.mono fun j _ hj => .inl hj)
    have HI7 := Lib.hid hi
    have HS7 := Lib.hid hs
    have HRP7 := Lib.hid (HRP6.out.fr hf' HNPX.out)
    have HRD7 := Lib.hid (HRD6.out.fr hf' HNDX.out)
    have HRR7 := Lib.hid (HRR6.out.fr hf' HNRX.out)
    refine hK.out _ _ (keep_class hf) ?_
    clear hK K hs hnew hi hf hf' HRW HI6 HRP6 HRD6 HRR6 HF6 HBd
    refine growK_last (by kernel_rfl) (by kernel_rfl) (fun K hK => ?_)
    simp only [stepOf, List.getElem?_toArray, List.getElem?_cons_succ, List.getElem?_cons_zero]
    rw [if_pos (by rfl)]
    refine wp_copyB _ (.tmp 23) (.tmp 25) rfl (P + 1) 0 32 32 32 32 32 (fun _ => .int .u8 0) (vOf sm) 50 rfl sa' sc' 32 sm rfl H32.out HRD7.out HS7.out (by rw [H32.out]; exact Nat.le_refl _) (by omega) (Nat.le_refl _) (fun j hj => .inl ⟨Nat.zero_le _, by rw [H32.out]; omega, rfl⟩) ?_
    intro w8 hr8 hf8
    have HF8 : Hid (Fr (fun j => X j ∨ j = P ∨ j = P + 1) w4 w8) := (HF7.out.mono fun j _ hj => hj.imp id .inl).trans (hf8.out.mono fun j _ hj => .inr (.inr hj))
    have HI8 := Lib.hid (HI7.out.keep hf8.out fun j hj e => HNDX.out (e ▸ hj))
    have HRP8 := Lib.hid (HRP7.out.fr hf8.out (by omega))
    have HRR8 := Lib.hid (HRR7.out.fr hf8.out hRD)
    have HRD8 := hr8
    rw [show 8 + 32 = 40 by rfl, HKB.out] at HI8
    clear hr8 hf8 HS7 HI7 HRD7 HRR7 HRP7 HF7
    refine hK.out _ _ ?_
    clear hK K
    -- kind and body
    have HRDD := Lib.hid (read_any w1.heap.size X w8 ib P set kb H8.out B8.out HI8.out HRP8.out HNPX.out)
    have HKB2 := Lib.hid (HI8.out.byte kb rfl)
    go_wp2_with fail
    (with_reducible refine HRDD.out.mono ?_)
    rintro e w9 ⟨rfl, hf9, hq9⟩
    have NSZ : Hid (w.heap.size ≤ w8.heap.size) := by
      have := HB4.out.size
      have := HF8.out.size
      show _ ≤ _
      omega
    have HRD9 := Lib.hid (HRD8.out.fr hf9 (by rintro (h | h); exact HNDX.out h; omega))
    have HRR9 := Lib.hid (HRR8.out.fr hf9 (by rintro (h | h); exact HNRX.out h; exact hRP h))
    have HF9 : Hid (Fr (fun j => X j ∨ j = P ∨ j = P + 1) w4 w9) := HF8.out.trans (hf9.mono fun j _ hj => hj.imp id .inl)
    have hlow : ∀ j, (X j ∨ j = P ∨ j = P + 1) → w1.heap.size ≤ j := fun j hj => by
      have h2 := HB4.out.size
      rcases hj with h | h | h
      · exact (HXX.out j h).1
      · omega
      · omega
    have HB9 : Hid (Below w.heap.size w w9) := HB4.out.trans (HF9.out.below HB4.out.size fun k hk h => by have := hlow k h; omega)
    have HB49 : Hid (Below w1.heap.size w4 w9) := HF9.out.below (by have := HB24.out.size; omega) fun k hk h => by have := hlow k h; omega
    have HB19 : Hid (Below w1.heap.size w1 w9) := HB14.out.trans HB49.out
    have hRl : R < w8.heap.size := HRR8.out.lt
    have HQ9 := Lib.hid hq9
    clear hf9 hq9 HRDD HI8 HRP8 HRD8 HRR8 HF8 HF9
    have HRW9 : Hid (w9.heap[R]? = some (.cells (rowArr 51 (pkV zPk none 0 none 0)) 100 (0, 0))) := HRR9.out.whole
    clear HRR9
    cases hr : rdN set kb with
    | none =>
      have HD : Hid (decN l = .form) := by show _ = _; rw [HDN.out, hr]
      clear HDN HQ9
      go_upto_region 10 with fail
      go_wp2_with (refine wpList_store_arr rfl 100 _ _ rfl R _ rfl rfl 100 _ HRW9.out (by kernel_rfl) ((rowArr_size _ _).trans rfl) (oneCell_pk zPk none 0 none 0) ?_; intro wz HCy hfz; have HCz : Hid (wz.heap[R]? = some (.cells (rowArr 51 (pkV zPk none 0 none 0)) 100 (0, 0))) := HCy; clear HCy)
      have HBz : Hid (Below w.heap.size w wz) := HB9.out.trans (hfz.out.below HB9.out.size fun k hk e => by omega)
      exact bodyPost_ret (v := .tuple #[.agg (rowArr 51 (pkV zPk none 0 none 0)), .int .i64 0, .int .i64 2]) (results_cell_tmp2 rfl _ _ R 100 _ (0, 0) _ rfl HCz.out Tryz.underlying100 rfl (by rw [rowArr_size]; kernel_rfl) (.int .i64 0) (.int .i64 2) rfl rfl) rfl ⟨by rw [HD.out]; rfl, HBz.out⟩
    | some q =>
      obtain ⟨sa, sc, da, dc, hrow, hpk, hsa, hda⟩ := HQ9.out q hr
      have HSN : Hid (∀ p, sa = some p → w.heap.size ≤ p.block) := fun p hp => by have := hsa p hp; have := NSZ.out; omega
      have HDN9 : Hid (∀ p, da = some p → w.heap.size ≤ p.block) := fun p hp => by have := hda p hp; have := NSZ.out; omega
      have HSA : Hid (∀ p, sa = some p → R ≠ p.block) := fun p hp => by have := hsa p hp; omega
      have HDA : Hid (∀ p, da = some p → R ≠ p.block) := fun p hp => by have := hda p hp; omega
      obtain ⟨hqs, _, _, _⟩ := rd_sound H8.out B8.out HKB2.out hr
      have HDN2 : Hid (decN l = if sm = dgN (set ++ kb) then .ok q n else .sum) := by show _ = _; rw [HDN.out, hr]
      have HROW := Lib.hid hrow
      have HPK := Lib.hid hpk
      have HQS := Lib.hid hqs
      clear HDN HQ9 hrow hpk hqs hr hsa hda
      go_upto_region 11 with fail
      obtain ⟨wd, hwd⟩ : ∃ wd, wd = w9.drew := ⟨_, rfl⟩
      have HBd : Hid (Below w9.heap.size w9 wd) := by rw [hwd]; exact (Below.refl _ _).drew
      have HROWd : Hid (Row wd P 100 51 51 (pkV q sa sc da dc)) := HROW.out.fr (X := fun _ => False) (Fr.of_below HBd.out) (fun h => h)
      have HRDd : Hid (Row wd (P + 1) 50 32 32 (vOf sm)) := HRD9.out.fr (X := fun _ => False) (Fr.of_below HBd.out) (fun h => h)
      have KP : Hid (∀ w, (∃ u : KeepW wd (fun _ => False), w = u.v) → ∀ j, j < 8 → w.cell? ⟨P, 0 + j, none⟩ = some (vOf set j)) := fun w hw j hj => by
        obtain ⟨u, rfl⟩ := hw
        rw [u.cell HROWd.out.lt (fun h => h), Nat.zero_add, HROWd.out.cell j (by omega), pkV_set _ _ _ _ _ hj, HQS.out]
      have KD : Hid (∀ w, (∃ u : KeepW wd (fun _ => False), w = u.v) → ∀ j, j < 32 → w.cell? ⟨P + 1, 0 + j, none⟩ = some (vOf sm j)) := fun w hw j hj => by
        obtain ⟨u, rfl⟩ := hw
        rw [u.cell HRDd.out.lt (fun h => h), Nat.zero_add, HRDd.out.cell j hj]
      have HCK := Lib.hid (check_any set (some ⟨b, off + 48, none⟩) (c - 48) kb wd H8.out B8.out ((HK4.out.below HB19.out).below HBd.out) (by rw [HKL.out]; omega) ((HT1.out.below HB19.out).below HBd.out))
      rw [HKL.out] at HCK
      have hDb := dgN_byte (set ++ kb)
      have hDl := dgN_len (set ++ kb)
      obtain ⟨D, hD⟩ : ∃ D, D = dgN (set ++ kb) := ⟨_, rfl⟩
      rw [← hD] at HCK HDN2 hDb hDl
      obtain ⟨A1, hA1⟩ : ∃ A1, A1 = rowArr 32 (vOf sm) := ⟨_, rfl⟩
      obtain ⟨A2, hA2⟩ : ∃ A2, A2 = rowArr 32 (vOf D) := ⟨_, rfl⟩
      obtain ⟨A3, hA3⟩ : ∃ A3, A3 = rowArr 8 (vOf set) := ⟨_, rfl⟩
      have V1 : Hid (rowArr 32 (vOf sm) = A1) := hA1.symm
      have V3 : Hid (rowArr 8 (vOf set) = A3) := hA3.symm
      have nn : ∀ w, (binOp .neq 50 (.agg A1) (.agg A2)).run Tryz.prog w = .ok (.bool (!decide (sm = D))) w := fun w => by
        rw [run_neq_struct, hA1, hA2, eq_arr Tryz.underlying50 B32.out hDb H32.out hDl 9998 w]
        rfl
      rw [← hA2, ← hA3] at HCK
      clear hD hDb hDl hA1 hA2 hA3
      refine growK_begin 7 (fun w' => ∃ u : KeepW wd (fun _ => False), w' = u.v) (by kernel_rfl) ?_
      rw [← hwd]
      clear hwd
      refine growK_take (by kernel_rfl) [0, 1, 2, 3, 4, 5] 2 _ _ (by kernel_rfl) _ (keep_class (Fr.refl _ _)) ?_
      simp only [opsAt, List.getElem?_toArray, List.getElem?_cons_succ, List.getElem?_cons_zero]
      repeat (first
        | (refine wpQuiet_load_v (by rfl) 50 _ rfl (P + 1) 0 32 _ A1 V1.out rfl _ KD.out Tryz.underlying50 rfl (by kernel_rfl) ?_)
        | (refine wpQuiet_load_v (by rfl) 64 _ rfl P 0 8 _ A3 V3.out rfl _ KP.out Tryz.underlying64 rfl (by kernel_rfl) ?_)
        | go_big_quiet_step (fail) | quiet_step (fail))
      refine wpQuiet_nil ?_
      clear KP KD V1 V3
      refine growK_one 6 (by kernel_rfl) (fun K hK => ?_)
      simp only [stepOf, List.getElem?_toArray, List.getElem?_cons_succ, List.getElem?_cons_zero]
      go_simp
      go_at_call 88
      (with_reducible refine HCK.out.mono ?_)
      rintro e w10 ⟨rfl, b10⟩
      have hf10 : Fr (fun _ => False) wd w10 := Fr.of_below b10
      have HROW10 := Lib.hid (HROWd.out.fr hf10 (fun h => h))
      have HB910 : Hid (Below w9.heap.size w9 w10) := HBd.out.trans (b10.mono HBd.out.size)
      refine hK.out _ _ (keep_class hf10) ?_
      clear hK K hf10 b10 HCK HROWd HRDd HBd
      refine growK_last (by kernel_rfl) (by kernel_rfl) (fun K hK => ?_)
      simp only [stepOf, List.getElem?_toArray, List.getElem?_cons_succ, List.getElem?_cons_zero]
      go_simp
      refine hK.out _ _ ?_
      clear hK K nn
      have HB10 : Hid (Below w.heap.size w w10) := HB9.out.trans (HB910.out.mono HB9.out.size)
      have HPK10 := Lib.hid (HPK.out.below HB910.out)
      have HRW10 : Hid (w10.heap[R]? = some (.cells (rowArr 51 (pkV zPk none 0 none 0)) 100 (0, 0))) := (HB910.out.block R (Array.getElem?_eq_some_iff.1 HRW9.out).1).trans HRW9.out
      clear HB9 HB910 HPK HRW9 HROW HRD9
      by_cases hsd : sm = D
      · have HD : Hid (decN l = .ok q n) := by show _ = _; rw [HDN2.out, if_pos hsd]
        rw [decide_eq_true hsd]
        clear hsd HDN2
        have HWH := Lib.hid HROW10.out.whole
        obtain ⟨AQ, hAQ⟩ : ∃ AQ, AQ = rowArr 51 (pkV q sa sc da dc) := ⟨_, rfl⟩
        have hone : AQ.all (·.oneCell') = true := by rw [hAQ]; exact oneCell_pk _ _ _ _ _
        have hAQs : AQ.size = 51 := by rw [hAQ, rowArr_size]
        have HAQ := Lib.hid hAQ
        rw [← hAQ] at HWH
        have HON := Lib.hid hone
        have HAS := Lib.hid hAQs
        clear hAQ hone hAQs
        go_upto_region 13 with fail
        go_wp2_with (first
          | (refine wpList_load_row rfl 100 _ rfl P rfl 100 AQ (0, 0) _ HWH.out Tryz.underlying100 rfl (by rw [HAS.out]; kernel_rfl) ?_)
          | (refine wpList_store_arr rfl 100 _ _ rfl R AQ rfl rfl 100 _ HRW10.out (by rw [HAS.out]; kernel_rfl) (by rw [HAS.out, rowArr_size]) HON.out ?_; intro wz HCz hfz))
        have hbz : Below w.heap.size w wz := HB10.out.trans (hfz.out.below HB10.out.size fun k hk e => by omega)
        have HPZ : PkAt wz q sa sc da dc := HPK10.out.frame hfz.out (fun p hp e => HSA.out p hp e.symm) (fun p hp e => HDA.out p hp e.symm)
        exact bodyPost_ret (v := .tuple #[.agg AQ, .int .i64 (n : Int), .int .i64 0]) (results_cell_tmp2 rfl _ _ R 100 _ (0, 0) _ rfl HCz.out Tryz.underlying100 rfl (by rw [HAS.out]; kernel_rfl) (.int .i64 (n : Int)) (.int .i64 0) rfl rfl) rfl ⟨by rw [HD.out]; exact ⟨sa, sc, da, dc, by rw [HAQ.out], HPZ, HSN.out, HDN9.out⟩, hbz⟩
      · have HD : Hid (decN l = .sum) := by show _ = _; rw [HDN2.out, if_neg hsd]
        rw [decide_eq_false hsd]
        clear hsd HDN2
        go_upto_region 12 with fail
        go_wp2_with (refine wpList_store_arr rfl 100 _ _ rfl R _ rfl rfl 100 _ HRW10.out (by kernel_rfl) ((rowArr_size _ _).trans rfl) (oneCell_pk zPk none 0 none 0) ?_; intro wz HCy hfz; have HCz : Hid (wz.heap[R]? = some (.cells (rowArr 51 (pkV zPk none 0 none 0)) 100 (0, 0))) := HCy; clear HCy)
        have HBz : Hid (Below w.heap.size w wz) := HB10.out.trans (hfz.out.below HB10.out.size fun k hk e => by omega)
        exact bodyPost_ret (v := .tuple #[.agg (rowArr 51 (pkV zPk none 0 none 0)), .int .i64 0, .int .i64 11]) (results_cell_tmp2 rfl _ _ R 100 _ (0, 0) _ rfl HCz.out Tryz.underlying100 rfl (by rw [rowArr_size]; kernel_rfl) (.int .i64 0) (.int .i64 11) rfl rfl) rfl ⟨by rw [HD.out]; rfl, HBz.out⟩
end Go.Proofs.YtfgaohilpbocbaaGreatDoor
end

section
namespace Go.Proofs.YtfgaohilpbocbaaGreatDoor
open Go.ChangeShapes Go.WideShapes Go.ChangeAt Go.RowKit Go.Joins
set_option linter.unusedVariables false

/-- What is found among bytes, from a place on. -/
inductive Finds (l : List Nat) : Nat → List (Nat × Pk) → Prop
  | stop {i : Nat} (h : l.length ≤ i) : Finds l i []
  | next {i : Nat} {fs : List (Nat × Pk)} (h : i < l.length) (hd : ∀ p n, decN (l.drop i) ≠ .ok p n) (k : Finds l (i + 1) fs) : Finds l i fs
  | here {i : Nat} {p : Pk} {n : Nat} {fs : List (Nat × Pk)} (h : i < l.length) (hd : decN (l.drop i) = .ok p n) (k : Finds l (i + n) fs) : Finds l i ((i, p) :: fs)
theorem finds_stop {l : List Nat} {i : Nat} {fs : List (Nat × Pk)} (h : Finds l i fs) (hi : l.length ≤ i) : fs = [] := by
  cases h with
  | stop _ => rfl
  | next h _ _ => omega
  | here h _ _ => omega
theorem finds_next {l : List Nat} {i : Nat} {fs : List (Nat × Pk)} (h : Finds l i fs) (hi : i < l.length) (hd : ∀ p n, decN (l.drop i) ≠ .ok p n) : Finds l (i + 1) fs := by
  cases h with
  | stop h => omega
  | next _ _ k => exact k
  | here _ h _ => exact absurd h (hd _ _)
theorem finds_here {l : List Nat} {i : Nat} {fs : List (Nat × Pk)} (h : Finds l i fs) (hi : i < l.length) {p : Pk} {n : Nat} (hd : decN (l.drop i) = .ok p n) : ∃ r, fs = (i, p) :: r ∧ Finds l (i + n) r := by
  cases h with
  | stop h => omega
  | next _ h _ => exact absurd hd (h _ _)
  | here _ h k =>
    rw [hd] at h
    cases h
    exact ⟨_, rfl, k⟩

/-- A packet found, and where its slices lie. -/
structure Fnd where
  pos : Nat
  p : Pk
  sa : Option Addr
  sc : Nat
  da : Option Addr
  dc : Nat
def Fnd.pair (f : Fnd) : Nat × Pk := (f.pos, f.p)
def fndV (f : Fnd) (j : Nat) : Value := if j = 0 then .int .i64 (f.pos : Int) else pkV f.p f.sa f.sc f.da f.dc (j - 1)
def oneFd (f : Fnd) : List Value := (List.range 52).map (fndV f)
def encFd (F : List Fnd) : List Value := F.flatMap oneFd
theorem oneFd_len (f : Fnd) : (oneFd f).length = 52 := by simp [oneFd]
theorem oneFd_get (f : Fnd) {k : Nat} (hk : k < 52) : (oneFd f)[k]? = some (fndV f k) := by
  unfold oneFd
  rw [List.getElem?_map, List.getElem?_range hk]
  rfl
theorem encFd_len : ∀ F : List Fnd, (encFd F).length = F.length * 52
  | [] => rfl
  | x :: l => by
    have := encFd_len l
    unfold encFd at this ⊢
    simp only [List.flatMap_cons, List.length_append, this, List.length_cons, oneFd_len]
    omega
theorem encFd_app (l m : List Fnd) : encFd (l ++ m) = encFd l ++ encFd m := by simp [encFd]
theorem encFd_get {l : List Fnd} : ∀ {i : Nat} (h : i < l.length) {k : Nat} (hk : k < 52), (encFd l)[i * 52 + k]? = some (fndV l[i] k) := by
  induction l with
  | nil => intro i h; simp at h
  | cons x l ih =>
    intro i h k hk
    have e : encFd (x :: l) = oneFd x ++ encFd l := rfl
    have hl := oneFd_len x
    rw [e]
    cases i with
    | zero =>
      rw [List.getElem?_append_left (by omega), show 0 * 52 + k = k by omega, oneFd_get x hk]
      rfl
    | succ i =>
      rw [List.getElem?_append_right (by omega), show (i + 1) * 52 + k - (oneFd x).length = i * 52 + k by omega]
      exact ih (by simpa using h) hk
theorem pkV_one (p : Pk) (sa : Option Addr) (sc : Nat) (da : Option Addr) (dc : Nat) (j : Nat) : (pkV p sa sc da dc j).oneCell' = true := by
  unfold pkV
  (repeat' split) <;> first | rfl | skip
  unfold filV
  (repeat' split) <;> rfl
theorem fndV_one (f : Fnd) (j : Nat) : (fndV f j).oneCell' = true := by
  unfold fndV
  split
  · rfl
  · exact pkV_one _ _ _ _ _ _

/-- A row of them that is made by append. -/
def OwnFd (B : Nat) (w : World) (v : Value) (F : List Fnd) : Prop := w.ownsRow B 112 52 v F.length (encFd F)
theorem OwnFd.nil (B : Nat) (w : World) : OwnFd B w (.slice none 0 0) [] := World.ownsRow_nil _ _ _ _
theorem OwnFd.slice {B : Nat} {w : World} {v : Value} {F : List Fnd} (h : OwnFd B w v F) : ∃ a c, v = .slice a F.length c ∧ F.length ≤ c ∧ c ≤ maxLen := by
  rcases h.2 with ⟨h1, h2⟩ | ⟨g, cap, cur, h1, h2, h3, h4, h5, h6, h7⟩
  · exact ⟨none, 0, by rw [h1, h2], by omega, by unfold maxLen; omega⟩
  · exact ⟨_, cap, h1, h4, h5⟩
theorem OwnFd.at {B : Nat} {w : World} {v : Value} {F : List Fnd} (h : OwnFd B w v F) {b : Nat} (hb : v.ownBlock = some b) : B ≤ b ∧ b < w.heap.size := by
  rcases h.2 with ⟨rfl, _⟩ | ⟨g, cap, cur, rfl, hB, hh, _⟩
  · simp [Value.ownBlock] at hb
  · have : g = b := by simpa [Value.ownBlock] using hb
    subst this
    exact ⟨hB, (Array.getElem?_eq_some_iff.1 hh).1⟩
theorem OwnFd.kept {B : Nat} {w w' : World} {v : Value} {F : List Fnd} (h : OwnFd B w v F) (k : Below w.heap.size w w') : OwnFd B w' v F := by
  refine ⟨h.1, ?_⟩
  rcases h.2 with h0 | ⟨g, cap, cur, e, hB, hh, r⟩
  · exact .inl h0
  · exact .inr ⟨g, cap, cur, e, hB, (k.block g (Array.getElem?_eq_some_iff.1 hh).1).trans hh, r⟩
/-- Its cells. -/
theorem OwnFd.cells {B : Nat} {w : World} {a : Option Addr} {c : Nat} {F : List Fnd} (h : OwnFd B w (.slice a F.length c) F) {i : Nat} (hi : i < F.length) :
    ∃ g, a = some ⟨g, 0, none⟩ ∧ g < w.heap.size ∧ ∀ k, k < 52 → w.cell? ⟨g, i * 52 + k, none⟩ = some (fndV F[i] k) := by
  rcases h.2 with ⟨h1, h2⟩ | ⟨g, cap, cur, h1, h2, h3, h4, h5, h6, h7⟩
  · omega
  · injection h1 with e1 e2 e3
    refine ⟨g, e1, (Array.getElem?_eq_some_iff.1 h3).1, fun k hk => ?_⟩
    rw [cell_of_block h3, ← encFd_get hi hk, ← h7, List.getElem?_take_of_lt (by omega), Array.getElem?_toList]
theorem infoF : (Tryz.prog.info? 112).map (fun i => (i.zero, i.size, i.bytes)) = some (some (.agg #[.int .i64 0, .int .u8 0, .int .u8 0, .int .u8 0, .int .u8 0, .int .u8 0, .int .u8 0, .int .u8 0, .int .u8 0, .int .i64 0, .int .i64 0, .int .i64 0, .int .i64 0, .int .i64 0, .string { data := #[] }, .int .i64 0, .int .u8 0, .int .u8 0, .int .u8 0, .int .u8 0, .int .u8 0, .int .u8 0, .int .u8 0, .int .u8 0, .int .u8 0, .int .u8 0, .int .u8 0, .int .u8 0, .int .u8 0, .int .u8 0, .int .u8 0, .int .u8 0, .int .u8 0, .int .u8 0, .int .u8 0, .int .u8 0, .int .u8 0, .int .u8 0, .int .u8 0, .int .u8 0, .int .u8 0, .int .u8 0, .int .u8 0, .int .u8 0, .int .u8 0, .int .u8 0, .int .u8 0, .int .u8 0, .int .i64 0, .slice none 0 0, .int .u32 0, .slice none 0 0]), 52, 176) := by kernel_rfl
theorem infoF_q : ∃ i z, Tryz.prog.info? 112 = some i ∧ i.zero = some z ∧ z.cells.size = 52 ∧ i.size = 52 ∧ i.bytes = 176 := by
  have h := infoF
  cases hi : Tryz.prog.info? 112 with
  | none => rw [hi] at h; cases h
  | some i =>
    rw [hi] at h
    simp only [Option.map_some, Option.some.injEq, Prod.mk.injEq] at h
    exact ⟨i, _, rfl, h.1, rfl, h.2.1, h.2.2⟩
/-- One is appended. -/
theorem wpList_push_f {ops : Array Oper} {rest : List Oper} {o : Oper} {a : Act} {Q : Exit → Act → World → Prop} (w : World) (hgd : o.guard = none) (s x : Operand)
    (ho : o.op = .call { callee := .builtin .append, args := #[s, x], argTypes := #[62, 62] })
    (B : Nat) (v : Value) (l : List Fnd) (hs : a.eval s = v) (hown : OwnFd B w v l) (g : Nat) (hx : a.eval x = .slice (some ⟨g, 0, none⟩) 1 1)
    (f : Fnd) (hc : ∀ k, k < 52 → w.cell? ⟨g, k, none⟩ = some (fndV f k)) (hB : B ≤ w.heap.size) (hlen : l.length ≤ 1000000)
    (h : ∀ v' w', Hid (OwnFd B w' v' (l ++ [f])) → Hid (w.grownBy w' v.ownBlock) → Hid (v'.ownBlock = v.ownBlock ∨ v'.ownBlock = some w.heap.size) → wpList Tryz.prog ops Q rest (a.put o.dst v') w') : wpList Tryz.prog ops Q (o :: rest) a w := by
  obtain ⟨i0, z, hi, hz0, hzs, hz1, hz2⟩ := infoF_q
  have hn : ∀ j u, (oneFd f)[j]? = some u → w.cell? ((⟨g, 0, none⟩ : Addr).add j) = some u := fun j u hj => by
    have hjl : j < 52 := by
      have := (List.getElem?_eq_some_iff.1 hj).1
      rw [oneFd_len] at this
      exact this
    rw [oneFd_get f hjl] at hj
    cases hj
    have := hc j hjl
    by_cases j0 : j = 0
    · subst j0; simpa [Addr.add] using this
    · simpa [Addr.add, j0] using this
  refine wpList_append_own_at w hgd s x 62 ho B 112 i0 z 52 176 Tryz.underlying62 hi hz0 hz1 hz2 hzs (by decide) v l.length _ hs hown ⟨g, 0, none⟩ 1 1 (oneFd f) hx (oneFd_len f) hn (fun u hu => by obtain ⟨k, _, rfl⟩ := List.mem_map.1 hu; exact fndV_one f k) (by unfold maxLen; omega) (by omega) hB ?_
  intro v' w' k1 k2 _ k5
  refine h v' w' ?_ k2 k5
  show OwnFd B w' v' (l ++ [f])
  unfold OwnFd
  rw [List.length_append, encFd_app]
  simpa [encFd] using k1

/-! A list of them, beside what is told of each. -/

def Apart (v : Value) (f : Fnd) : Prop := (f.p.sums ≠ [] → ∀ q, f.sa = some q → v.ownBlock ≠ some q.block) ∧ (f.p.data ≠ [] → ∀ q, f.da = some q → v.ownBlock ≠ some q.block)
/-- What is told of it lies in new memory. -/
def NewFd (w0 : World) (f : Fnd) : Prop := (∀ q, f.sa = some q → w0.heap.size ≤ q.block) ∧ (∀ q, f.da = some q → w0.heap.size ≤ q.block)
structure FSt (w0 wr : World) (v : Value) (F : List Fnd) : Prop where
  own : OwnFd w0.heap.size wr v F
  below : Below w0.heap.size w0 wr
  pks : ∀ f ∈ F, PkAt wr f.p f.sa f.sc f.da f.dc ∧ Apart v f
  new : ∀ f ∈ F, NewFd w0 f
theorem PkAt.apart {w w' : World} {p : Pk} {sa : Option Addr} {sc : Nat} {da : Option Addr} {dc : Nat} {X : Nat → Prop} (h : PkAt w p sa sc da dc) (k : Fr X w w') (h1 : p.sums ≠ [] → ∀ q, sa = some q → ¬ X q.block) (h2 : p.data ≠ [] → ∀ q, da = some q → ¬ X q.block) : PkAt w' p sa sc da dc := by
  refine ⟨h.okk, ⟨h.sums.rng, h.sums.len, h.sums.most, ?_⟩, h.data.of_block fun q hq hl => k.block _ (h.data.blk q hq hl) (h2 hl q hq)⟩
  by_cases he : p.sums = []
  · exact .inl he
  rcases h.sums.here with e | ⟨b, off, e, hb, hc⟩
  · exact .inl e
  · refine .inr ⟨b, off, e, Nat.lt_of_lt_of_le hb k.size, fun i hi => ?_⟩
    have hbk : w'.heap[b]? = w.heap[b]? := k.block b hb (h1 he _ e)
    obtain ⟨c1, c2, c3⟩ := hc i hi
    exact ⟨(World.cell?_of_block (a := ⟨b, _, none⟩) hbk).trans c1, (World.cell?_of_block (a := ⟨b, _, none⟩) hbk).trans c2, fun j hj => (World.cell?_of_block (a := ⟨b, _, none⟩) hbk).trans (c3 j hj)⟩
theorem FSt.later {w0 wr w' : World} {v : Value} {F : List Fnd} (h : FSt w0 wr v F) (k : Below wr.heap.size wr w') : FSt w0 w' v F :=
  ⟨h.own.kept k, h.below.trans (k.mono h.below.size), fun f hf => ⟨(h.pks f hf).1.below k, (h.pks f hf).2⟩, h.new⟩
theorem FSt.push {w0 wr w' : World} {v v' : Value} {F : List Fnd} (h : FSt w0 wr v F) (f : Fnd) (hp : PkAt wr f.p f.sa f.sc f.da f.dc) (ha : Apart v f) (hnw : NewFd w0 f)
    (ho : OwnFd w0.heap.size w' v' (F ++ [f])) (k : wr.grownBy w' v.ownBlock) (e : v'.ownBlock = v.ownBlock ∨ v'.ownBlock = some wr.heap.size) : FSt w0 w' v' (F ++ [f]) := by
  have hf : Fr (fun b => v.ownBlock = some b) wr w' := Fr.of_grown k fun b hb => hb
  have all : ∀ x ∈ F ++ [f], PkAt wr x.p x.sa x.sc x.da x.dc ∧ Apart v x := fun x hx => by
    rcases List.mem_append.1 hx with h1 | h1
    · exact h.pks x h1
    · have : x = f := by simpa using h1
      subst this
      exact ⟨hp, ha⟩
  refine ⟨ho, h.below.trans (hf.below h.below.size fun j hj hv => ?_), fun x hx => ⟨?_, ?_⟩, fun x hx => (List.mem_append.1 hx).elim (h.new x) fun h1 => by rw [List.mem_singleton.1 h1]; exact hnw⟩
  · have := (h.own.at hv).1
    omega
  · exact (all x hx).1.apart hf (fun hn q hq hb => (all x hx).2.1 hn q hq hb) (fun hn q hq hb => (all x hx).2.2 hn q hq hb)
  · obtain ⟨k1, k2, k3⟩ := all x hx
    refine ⟨fun hn q hq hb => ?_, fun hn q hq hb => ?_⟩
    · rcases e with e | e
      · exact k2 hn q hq (e ▸ hb)
      · rcases k1.sums.here with h0 | ⟨b, off, e2, hlt, _⟩
        · exact hn h0
        · rw [e2] at hq
          cases hq
          rw [e] at hb
          have h9 : wr.heap.size = b := Option.some.inj hb
          omega
    · rcases e with e | e
      · exact k3 hn q hq (e ▸ hb)
      · have hlt := k1.data.blk q hq hn
        rw [e] at hb
        have := Option.some.inj hb
        omega
theorem built_found (k : Nat) (V : Nat → Value) : Tryz.prog.built 112 [(0, .int .i64 (k : Int)), (1, .agg (rowArr 51 V))] = some (rowArr 52 fun j => if j = 0 then .int .i64 (k : Int) else V (j - 1)) := by kernel_rfl
theorem builtS_found (V : Nat → Value) : Tryz.prog.builtSlice 112 1 [(0, .agg (rowArr 52 V))] = some (rowArr 52 V) := by kernel_rfl
end Go.Proofs.YtfgaohilpbocbaaGreatDoor
end

section
namespace Go.Proofs.YtfgaohilpbocbaaGreatDoor
open Go.ChangeShapes Go.WideShapes Go.ChangeAt Go.RowKit Go.Joins
set_option linter.unusedVariables false

def FindPost (l : List Nat) (w : World) (e : Ending) (w' : World) : Prop := ∃ v F, e = .returned v ∧ FSt w w' v F ∧ Finds l 0 (F.map Fnd.pair) ∧ F.length ≤ l.length

set_option maxRecDepth 1000000 in
set_option maxHeartbeats 4000000 in
theorem find_any (a : Option Addr) (c : Nat) (l : List Nat) (w : World) (hs : Sl w a c l) (hl : l.length ≤ 60000) (ht : Tabs w) :
    Calls Tryz.prog 17 #[.slice a l.length c] w (FindPost l w) := by
  have mixed : Tryz.prog.follows .mixedOrders = true := by kernel_rfl
  have hlm := hs.lt
  have hcm : c ≤ 9223372036854775807 := by have := hs.most; unfold maxLen at this; omega
  have HS := Lib.hid hs
  have HT := Lib.hid ht
  clear hs ht
  go_enter Tryz.func17, Tryz.ntmps17
  go_wp2_with fail
  go_loopw [3, 4] (fun v p wq => ∃ (k : Nat) (F : List Fnd), k ≤ l.length ∧ F.length ≤ k ∧ p = .int .i64 (k : Int) ∧ Hid (FSt w wq v F) ∧ Hid (∀ fs, Finds l k fs → Finds l 0 (F.map Fnd.pair ++ fs))) (fun _ p _ => l.length - (intOf p).toNat)
  case atStart => exact ⟨0, [], by omega, by simp, rfl, ⟨OwnFd.nil _ _, Below.refl _ _, fun f hf => (by cases hf), fun f hf => (by cases hf)⟩, fun fs h => h⟩
  case round =>
    obtain ⟨k, F, hk, hFk, rfl, HF, HG⟩ := hrel
    by_cases hlt : k < l.length
    · have hkz : (k : Int) < (l.length : Int) := by omega
      have hkz2 : (k : Int) ≤ (l.length : Int) := by omega
      have HSr := Lib.hid (HS.out.below HF.out.below)
      obtain ⟨a2, hr2, hs2, -⟩ := cut_back HSr.out k hk
      have HBY : Hid (IsByte (l.drop k)) := hs2.byte
      have HD := Lib.hid (decode_new a2 (c - k) (l.drop k) _ hs2 (by rw [List.length_drop]; omega) (HT.out.below HF.out.below))
      rw [List.length_drop] at HD
      clear hs2 HSr
      cases hd : decN (l.drop k) with
      | ok q n =>
        have hbg := dec_ok HBY.out hd
        obtain ⟨n1, n2, n3⟩ := begins_le hbg
        rw [List.length_drop] at n1
        have HND : Hid (decN (l.drop k) = .ok q n) := hd
        have HD2 : Hid (Calls Tryz.prog 44 #[.slice a2 (l.length - k) (c - k)] wr fun e w' => (∃ sa sc da dc, e = .returned (.tuple #[.agg (rowArr 51 (pkV q sa sc da dc)), .int .i64 (n : Int), .int .i64 0]) ∧ PkAt w' q sa sc da dc ∧ (∀ p, sa = some p → wr.heap.size ≤ p.block) ∧ ∀ p, da = some p → wr.heap.size ≤ p.block) ∧ Below wr.heap.size wr w') := HD.out.mono fun e w' h => by
          unfold DecNew at h
          rw [hd] at h
          exact h
        clear HD hd hbg n3
        go_wp2_with fail
        (with_reducible refine HD2.out.mono ?_)
        rintro e w2 ⟨⟨sa, sc, da, dc, rfl, hpk, hsa, hda⟩, b2⟩
        have HB2 := Lib.hid b2
        have HPK2 := Lib.hid hpk
        have HAP : Hid (Apart u3 ⟨k, q, sa, sc, da, dc⟩) := ⟨fun _ p hp hv => by have h1 := (HF.out.own.at hv).2; have h2 := hsa p hp; omega, fun _ p hp hv => by have h1 := (HF.out.own.at hv).2; have h2 := hda p hp; omega⟩
        have HNWF : Hid (NewFd w ⟨k, q, sa, sc, da, dc⟩) := ⟨fun p hp => by have h1 := HF.out.below.size; have h2 := hsa p hp; omega, fun p hp => by have h1 := HF.out.below.size; have h2 := hda p hp; omega⟩
        obtain ⟨AQ, hAQ⟩ : ∃ AQ, AQ = rowArr 51 (pkV q sa sc da dc) := ⟨_, rfl⟩
        rw [← hAQ]
        have HAQ := Lib.hid hAQ
        have HQ1 : Hid (AQ.all (·.oneCell') = true) := by show _ = _; rw [hAQ]; exact oneCell_pk _ _ _ _ _
        have HQS : Hid (AQ.size = 51) := by show _ = _; rw [hAQ, rowArr_size]
        have HALL : Hid (∀ c : Array Value, (w2.alloc (.cells c 100)).heap[w2.heap.size]? = some (.cells c 100 (0, 0))) := fun c => heap_alloc_last w2 _
        have HALB : Hid (∀ c : Array Value, Below w2.heap.size w2 (w2.alloc (.cells c 100))) := fun c => (Below.refl _ _).alloc (Nat.le_refl _) _
        clear HD2 b2 hpk hAQ hsa hda
        go_upto_region 7 with (refine wpList_store_arr rfl 100 _ _ rfl w2.heap.size AQ rfl rfl 100 _ (HALL.out _) (by rw [HQS.out]; kernel_rfl) (by rw [HQS.out]; rfl) HQ1.out ?_; intro w3 HC3 hf3; have HB23 : Hid (Below w2.heap.size w2 w3) := (HALB.out _).trans (hf3.out.below (HALB.out _).size (fun k hk e => by omega)); clear hf3 HALL HALB)
        obtain ⟨pb, hpb⟩ : ∃ pb, pb = w2.heap.size := ⟨_, rfl⟩
        rw [← hpb] at HC3 ⊢
        have HF3 : Hid (FSt w w3 u3 F) := HF.out.later (HB2.out.trans (HB23.out.mono HB2.out.size))
        obtain ⟨FA, hFA⟩ : ∃ FA, FA = rowArr 52 (fndV ⟨k, q, sa, sc, da, dc⟩) := ⟨_, rfl⟩
        have HFA := Lib.hid hFA
        have HBA : Hid (Below w3.heap.size w3 (w3.alloc (.cells FA 112))) := (Below.refl _ _).alloc (Nat.le_refl _) _
        have HPK4 := Lib.hid ((HPK2.out.below HB23.out).below HBA.out)
        have HF4 := Lib.hid (HF3.out.later HBA.out)
        have HCF : Hid (∀ j, j < 52 → (w3.alloc (.cells FA 112)).cell? ⟨w3.heap.size, j, none⟩ = some (fndV ⟨k, q, sa, sc, da, dc⟩ j)) := fun j hj => by
          rw [hFA]
          exact (Row.of_whole (heap_alloc_last w3 _)).cell j hj
        have HG3 : Hid (∀ fs, Finds l (k + n) fs → Finds l 0 ((F ++ [(⟨k, q, sa, sc, da, dc⟩ : Fnd)]).map Fnd.pair ++ fs)) := fun fs h => by
          rw [List.map_append, List.append_assoc]
          exact HG.out _ (.here hlt HND.out h)
        clear hFA hpb HPK2 HB23 HB2 HF HG HND
        go_wp2_with (first
          | (refine wpList_load_row rfl 100 _ rfl pb rfl 100 AQ (0, 0) _ HC3.out Tryz.underlying100 rfl (by rw [HQS.out]; kernel_rfl) ?_)
          | (refine Sha.wp_build_as rfl 112 _ rfl FA ?_ ?_; (rw [HFA.out, HAQ.out]; kernel_rfl))
          | (refine Go.Great.wpList_buildSliceTo rfl 62 112 1 _ rfl w3.heap.size rfl (some 28) rfl Tryz.underlying62 FA ?_ ?_; (rw [HFA.out]; kernel_rfl))
          | (at_builtin; go_loud (refine wpList_push_f _ rfl _ _ rfl w.heap.size u3 F rfl HF4.out.own w3.heap.size rfl ⟨k, q, sa, sc, da, dc⟩ HCF.out HF4.out.below.size (by omega) ?_; intro v5 w5 HO5 hg5 he5)))
        have HF5 := Lib.hid (HF4.out.push ⟨k, q, sa, sc, da, dc⟩ HPK4.out HAP.out HNWF.out HO5.out hg5.out he5.out)
        clear HO5 hg5 he5 HF4 HF3 HCF HPK4 HAP
        go_roundw
        case rel => exact ⟨k + n, F ++ [⟨k, q, sa, sc, da, dc⟩], by omega, by rw [List.length_append]; simp; omega, by go_num, HF5, HG3⟩
        case measure => simp [intOf]; omega
      | form =>
        have HND : Hid (∀ p n, decN (l.drop k) ≠ .ok p n) := fun p n h => by rw [hd] at h; cases h
        obtain ⟨ZA, hZA⟩ : ∃ ZA, ZA = rowArr 51 (pkV zPk none 0 none 0) := ⟨_, rfl⟩
        have HQ1 : Hid (ZA.all (·.oneCell') = true) := by show _ = _; rw [hZA]; exact oneCell_pk _ _ _ _ _
        have HQS : Hid (ZA.size = 51) := by show _ = _; rw [hZA, rowArr_size]
        have HD2 : Hid (Calls Tryz.prog 44 #[.slice a2 (l.length - k) (c - k)] wr fun e w' => e = .returned (.tuple #[.agg ZA, .int .i64 0, .int .i64 2]) ∧ Below wr.heap.size wr w') := HD.out.mono fun e w' h => by
          unfold DecNew at h
          rw [hd] at h
          rw [hZA]
          exact h
        clear HD hd hZA
        go_wp2_with fail
        (with_reducible refine HD2.out.mono ?_)
        rintro e w2 ⟨rfl, b2⟩
        have HB2 := Lib.hid b2
        have HALL : Hid (∀ c : Array Value, (w2.alloc (.cells c 100)).heap[w2.heap.size]? = some (.cells c 100 (0, 0))) := fun c => heap_alloc_last w2 _
        have HALB : Hid (∀ c : Array Value, Below w2.heap.size w2 (w2.alloc (.cells c 100))) := fun c => (Below.refl _ _).alloc (Nat.le_refl _) _
        clear HD2 b2
        go_wp2_with (refine wpList_store_arr rfl 100 _ _ rfl w2.heap.size ZA rfl rfl 100 _ (HALL.out _) (by rw [HQS.out]; kernel_rfl) (by rw [HQS.out]; rfl) HQ1.out ?_; intro w3 HC3 hf3; have HB23 : Hid (Below w2.heap.size w2 w3) := (HALB.out _).trans (hf3.out.below (HALB.out _).size (fun k hk e => by omega)); clear hf3 HALL HALB)
        have HF3 : Hid (FSt w w3 u3 F) := HF.out.later (HB2.out.trans (HB23.out.mono HB2.out.size))
        have HG3 : Hid (∀ fs, Finds l (k + 1) fs → Finds l 0 (F.map Fnd.pair ++ fs)) := fun fs h => HG.out fs (.next hlt HND.out h)
        go_roundw
        case rel => exact ⟨k + 1, F, by omega, by omega, by go_num, HF3, HG3⟩
        case measure => simp [intOf]; omega
      | sum =>
        have HND : Hid (∀ p n, decN (l.drop k) ≠ .ok p n) := fun p n h => by rw [hd] at h; cases h
        obtain ⟨ZA, hZA⟩ : ∃ ZA, ZA = rowArr 51 (pkV zPk none 0 none 0) := ⟨_, rfl⟩
        have HQ1 : Hid (ZA.all (·.oneCell') = true) := by show _ = _; rw [hZA]; exact oneCell_pk _ _ _ _ _
        have HQS : Hid (ZA.size = 51) := by show _ = _; rw [hZA, rowArr_size]
        have HD2 : Hid (Calls Tryz.prog 44 #[.slice a2 (l.length - k) (c - k)] wr fun e w' => e = .returned (.tuple #[.agg ZA, .int .i64 0, .int .i64 11]) ∧ Below wr.heap.size wr w') := HD.out.mono fun e w' h => by
          unfold DecNew at h
          rw [hd] at h
          rw [hZA]
          exact h
        clear HD hd hZA
        go_wp2_with fail
        (with_reducible refine HD2.out.mono ?_)
        rintro e w2 ⟨rfl, b2⟩
        have HB2 := Lib.hid b2
        have HALL : Hid (∀ c : Array Value, (w2.alloc (.cells c 100)).heap[w2.heap.size]? = some (.cells c 100 (0, 0))) := fun c => heap_alloc_last w2 _
        have HALB : Hid (∀ c : Array Value, Below w2.heap.size w2 (w2.alloc (.cells c 100))) := fun c => (Below.refl _ _).alloc (Nat.le_refl _) _
        clear HD2 b2
        go_wp2_with (refine wpList_store_arr rfl 100 _ _ rfl w2.heap.size ZA rfl rfl 100 _ (HALL.out _) (by rw [HQS.out]; kernel_rfl) (by rw [HQS.out]; rfl) HQ1.out ?_; intro w3 HC3 hf3; have HB23 : Hid (Below w2.heap.size w2 w3) := (HALB.out _).trans (hf3.out.below (HALB.out _).size (fun k hk e => by omega)); clear hf3 HALL HALB)
        have HF3 : Hid (FSt w w3 u3 F) := HF.out.later (HB2.out.trans (HB23.out.mono HB2.out.size))
        have HG3 : Hid (∀ fs, Finds l (k + 1) fs → Finds l 0 (F.map Fnd.pair ++ fs)) := fun fs h => HG.out fs (.next hlt HND.out h)
        go_roundw
        case rel => exact ⟨k + 1, F, by omega, by omega, by go_num, HF3, HG3⟩
        case measure => simp [intOf]; omega
    · obtain rfl : k = l.length := by omega
      have HG2 : Hid (Finds l 0 (F.map Fnd.pair)) := by
        have h := HG.out [] (.stop (Nat.le_refl _))
        rw [List.append_nil] at h
        exact h
      go_wp2_with fail
      go_ret
      exact ⟨_, F, rfl, HF.out, HG2.out, hFk⟩
end Go.Proofs.YtfgaohilpbocbaaGreatDoor
end

section
namespace Go.Proofs.YtfgaohilpbocbaaGreatDoor
open Go.ChangeShapes Go.WideShapes Go.ChangeAt Go.RowKit Go.Joins
set_option linter.unusedVariables false

theorem body_isByte {p : Pk} (hi : PkIn p) : IsByte (pkBody p) := by
  have hu : ∀ z : Int, u8N z < 256 := u8N_lt
  unfold pkBody
  split
  · unfold mainN
    intro x hx
    simp only [List.mem_append, List.mem_singleton] at hx
    rcases hx with (hx | hx) | hx
    · exact wideN_byte _ _ x hx
    · rw [hx]; exact hu _
    · exact wideN_byte _ _ x hx
  · split
    · unfold fileN
      intro x hx
      simp only [List.mem_append, List.mem_cons, List.not_mem_nil, or_false] at hx
      rcases hx with (((hx | hx) | hx) | hx) | hx
      · rcases hx with hx | hx <;> rw [hx] <;> exact hu _
      · exact hi.file.byte x hx
      · exact wideN_byte _ _ x hx
      · exact hi.file.dgb x hx
      · exact wideN_byte _ _ x hx
    · split
      · unfold sumsN
        intro x hx
        simp only [List.mem_append, List.mem_singleton, List.mem_flatten, List.mem_map] at hx
        rcases hx with (hx | hx) | ⟨y, ⟨z, hz, rfl⟩, hx⟩
        · rw [hx]; exact hu _
        · exact wideN_byte _ _ x hx
        · unfold sumN at hx
          simp only [List.mem_append] at hx
          rcases hx with (hx | hx) | hx
          · exact wideN_byte _ _ x hx
          · exact wideN_byte _ _ x hx
          · exact (hi.sums z hz).2.2.2 x hx
      · unfold symbolN
        intro x hx
        simp only [List.mem_append] at hx
        rcases hx with hx | hx
        · exact wideN_byte _ _ x hx
        · exact hi.data x hx

/-! Rows whose elements are one cell each. -/

def Own1 (e : TypeId) (B : Nat) (w : World) (v : Value) (xs : List Value) : Prop := w.ownsRow B e 1 v xs.length xs
theorem Own1.at {e : TypeId} {B : Nat} {w : World} {v : Value} {xs : List Value} (h : Own1 e B w v xs) {b : Nat} (hb : v.ownBlock = some b) : B ≤ b ∧ b < w.heap.size := by
  rcases h.2 with ⟨rfl, _⟩ | ⟨g, cap, cur, rfl, hB, hh, _⟩
  · simp [Value.ownBlock] at hb
  · have : g = b := by simpa [Value.ownBlock] using hb
    subst this
    exact ⟨hB, (Array.getElem?_eq_some_iff.1 hh).1⟩
theorem Own1.fr {e : TypeId} {B : Nat} {w w' : World} {v : Value} {xs : List Value} {X : Nat → Prop} (h : Own1 e B w v xs) (k : Fr X w w') (hX : ∀ b, v.ownBlock = some b → ¬ X b) : Own1 e B w' v xs := by
  refine ⟨h.1, ?_⟩
  rcases h.2 with h0 | ⟨g, cap, cur, e, hB, hh, r⟩
  · exact .inl h0
  · exact .inr ⟨g, cap, cur, e, hB, (k.block g (Array.getElem?_eq_some_iff.1 hh).1 (hX g (by rw [e]; rfl))).trans hh, r⟩
theorem Own1.kind {e : TypeId} {B : Nat} {w : World} {v : Value} {xs : List Value} (h : Own1 e B w v xs) {b : Nat} (hb : v.ownBlock = some b) : ∃ cs, w.heap[b]? = some (.cells cs e (0, 0)) := by
  rcases h.2 with ⟨rfl, _⟩ | ⟨g, cap, cur, rfl, hB, hh, _⟩
  · simp [Value.ownBlock] at hb
  · have : g = b := by simpa [Value.ownBlock] using hb
    subst this
    exact ⟨_, hh⟩
theorem Own1.slice {e : TypeId} {B : Nat} {w : World} {v : Value} {xs : List Value} (h : Own1 e B w v xs) : ∃ a c, v = .slice a xs.length c ∧ xs.length ≤ c ∧ c ≤ maxLen := by
  rcases h.2 with ⟨h1, h2⟩ | ⟨g, cap, cur, h1, h2, h3, h4, h5, h6, h7⟩
  · exact ⟨none, 0, by rw [h1, h2], by omega, by unfold maxLen; omega⟩
  · exact ⟨_, cap, h1, h4, h5⟩
theorem Own1.cell {e : TypeId} {B : Nat} {w : World} {a : Option Addr} {c : Nat} {xs : List Value} (h : Own1 e B w (.slice a xs.length c) xs) {i : Nat} (hi : i < xs.length) :
    ∃ g, a = some ⟨g, 0, none⟩ ∧ g < w.heap.size ∧ w.cell? ⟨g, i, none⟩ = some xs[i] := by
  rcases h.2 with ⟨h1, h2⟩ | ⟨g, cap, cur, h1, h2, h3, h4, h5, h6, h7⟩
  · omega
  · injection h1 with e1 e2 e3
    refine ⟨g, e1, (Array.getElem?_eq_some_iff.1 h3).1, ?_⟩
    rw [cell_of_block h3, ← List.getElem?_eq_getElem hi, ← h7, List.getElem?_take_of_lt (by omega)]
    simp
theorem OwnB.kind {w : World} {v : Value} {l : List Nat} (h : OwnB w v l) {b : Nat} (hb : v.ownBlock = some b) : ∃ cs, w.heap[b]? = some (.cells cs 5 (0, 0)) := by
  rcases h.2 with ⟨rfl, _⟩ | ⟨g, cap, cur, rfl, hB, hh, _⟩
  · simp [Value.ownBlock] at hb
  · have : g = b := by simpa [Value.ownBlock] using hb
    subst this
    exact ⟨_, hh⟩
theorem run_push_1 (w : World) (ty t e : TypeId) {z : Value} {bytes : Nat} (hu : Tryz.prog.underlying t = some (.slice e)) (hinf : (Tryz.prog.info? e).map (fun i => (i.zero, i.size, i.bytes)) = some (some z, 1, bytes)) (hzs : z.cells.size = 1) (hby : bytes ≤ 1000)
    (B : Nat) (v : Value) (xs : List Value) (hown : Own1 e B w v xs) (g m : Nat) (ys : List Value) (hm : ys.length = m) (hc : w.heap[g]? = some (.cells ys.toArray e (0, 0))) (h1 : ∀ u ∈ ys, u.oneCell' = true) (hB : B ≤ w.heap.size) (hlen : xs.length ≤ 1000000) (hlm : m ≤ 1000000) :
    ∃ v' w', (Builtin.append_ #[t, t] ty #[v, .slice (some ⟨g, 0, none⟩) m m]).run Tryz.prog w = .ok v' w' ∧ Own1 e B w' v' (xs ++ ys) ∧ w.grownBy w' v.ownBlock ∧ (v'.ownBlock = v.ownBlock ∨ v'.ownBlock = some w.heap.size) := by
  obtain ⟨i0, hi, hz0, hz1, hz2⟩ := info_parts hinf
  have hn : ∀ j u, ys[j]? = some u → w.cell? ((⟨g, 0, none⟩ : Addr).add j) = some u := fun j u hj => by
    rw [addr_add, Nat.zero_add, cell_of_block hc]
    simpa using hj
  have hb2 : (xs.length + m) * bytes ≤ 2000000 * 1000 := Nat.mul_le_mul (by omega) hby
  obtain ⟨v', w', hr, k1, k2, _, k5⟩ := run_append_own_at (P := Tryz.prog) w B t ty e i0 z 1 bytes hu hi hz0 hz1 hz2 hzs (by decide) v xs.length xs hown ⟨g, 0, none⟩ m m ys (by rw [hm]; omega) hn h1 (by unfold maxLen; omega) (by omega) hB
  refine ⟨v', w', hr, ?_, k2, k5⟩
  unfold Own1
  rw [List.length_append, hm]
  exact k1
theorem op_push_1 {o : Oper} {a : Act} {K : Act → World → Prop} {Q : Exit → Act → World → Prop} (w : World) (s x : Operand) (t e : TypeId) {z : Value} {bytes : Nat} (ho : o.op = .call { callee := .builtin .append, args := #[s, x], argTypes := #[t, t] })
    (hu : Tryz.prog.underlying t = some (.slice e)) (hinf : (Tryz.prog.info? e).map (fun i => (i.zero, i.size, i.bytes)) = some (some z, 1, bytes)) (hzs : z.cells.size = 1) (hby : bytes ≤ 1000)
    (B : Nat) (v : Value) (xs : List Value) (hs : a.eval s = v) (hown : Own1 e B w v xs) (g m : Nat) (hx : a.eval x = .slice (some ⟨g, 0, none⟩) m m) (ys : List Value) (hm : ys.length = m) (hc : w.heap[g]? = some (.cells ys.toArray e (0, 0))) (h1 : ∀ u ∈ ys, u.oneCell' = true) (hB : B ≤ w.heap.size) (hlen : xs.length ≤ 1000000) (hlm : m ≤ 1000000)
    (h : ∀ v' w', Hid (Own1 e B w' v' (xs ++ ys)) → Hid (w.grownBy w' v.ownBlock) → Hid (v'.ownBlock = v.ownBlock ∨ v'.ownBlock = some w.heap.size) → K (a.put o.dst v') w') : o.wp Tryz.prog a w K Q := by
  obtain ⟨v', w', hr, k1, k2, k3⟩ := run_push_1 w o.type t e hu hinf hzs hby B v xs hown g m ys hm hc h1 hB hlen hlm
  unfold Oper.wp execOp
  simp only [ho, resolve, invoke, builtin, Sem.run_bind, Sem.run_pure, Result.andThen_ok, List.map_toArray, List.map_cons, List.map_nil, hs, hx, hr]
  exact h _ _ k1 k2 k3
theorem wpList_push_1 {ops : Array Oper} {rest : List Oper} {o : Oper} {a : Act} {Q : Exit → Act → World → Prop} (w : World) (hgd : o.guard = none) (s x : Operand) (t e : TypeId) {z : Value} {bytes : Nat} (ho : o.op = .call { callee := .builtin .append, args := #[s, x], argTypes := #[t, t] })
    (hu : Tryz.prog.underlying t = some (.slice e)) (hinf : (Tryz.prog.info? e).map (fun i => (i.zero, i.size, i.bytes)) = some (some z, 1, bytes)) (hzs : z.cells.size = 1) (hby : bytes ≤ 1000)
    (B : Nat) (v : Value) (xs : List Value) (hs : a.eval s = v) (hown : Own1 e B w v xs) (g m : Nat) (hx : a.eval x = .slice (some ⟨g, 0, none⟩) m m) (ys : List Value) (hm : ys.length = m) (hc : w.heap[g]? = some (.cells ys.toArray e (0, 0))) (h1 : ∀ u ∈ ys, u.oneCell' = true) (hB : B ≤ w.heap.size) (hlen : xs.length ≤ 1000000) (hlm : m ≤ 1000000)
    (h : ∀ v' w', Hid (Own1 e B w' v' (xs ++ ys)) → Hid (w.grownBy w' v.ownBlock) → Hid (v'.ownBlock = v.ownBlock ∨ v'.ownBlock = some w.heap.size) → wpList Tryz.prog ops Q rest (a.put o.dst v') w') : wpList Tryz.prog ops Q (o :: rest) a w :=
  wpList_plain hgd fun K hK => op_push_1 w s x t e ho hu hinf hzs hby B v xs hs hown g m hx ys hm hc h1 hB hlen hlm fun v' w' a1 a2 a3 => hK _ _ (h v' w' a1 a2 a3)
theorem infoInt : (Tryz.prog.info? 3).map (fun i => (i.zero, i.size, i.bytes)) = some (some (.int .i64 0), 1, 8) := by kernel_rfl
theorem infoBs : (Tryz.prog.info? 53).map (fun i => (i.zero, i.size, i.bytes)) = some (some (.slice none 0 0), 1, 24) := by kernel_rfl

/-- A body that is made, and its value. -/
structure Bw where
  v : Value
  l : List Nat
structure BoSt (w0 wr : World) (kv bv : Value) (K : List Int) (F : List Bw) : Prop where
  ko : Own1 3 w0.heap.size wr kv (K.map (Value.int .i64))
  bo : Own1 53 w0.heap.size wr bv (F.map (·.v))
  below : Below w0.heap.size w0 wr
  bods : ∀ b ∈ F, OwnB wr b.v b.l ∧ IsByte b.l
theorem BoSt.later {w0 wr w' : World} {kv bv : Value} {K : List Int} {F : List Bw} (h : BoSt w0 wr kv bv K F) (k : Below wr.heap.size wr w') : BoSt w0 w' kv bv K F :=
  ⟨h.ko.fr (X := fun _ => False) (Fr.of_below k) (fun _ _ h => h), h.bo.fr (X := fun _ => False) (Fr.of_below k) (fun _ _ h => h), h.below.trans (k.mono h.below.size), fun b hb => ⟨(h.bods b hb).1.fr (X := fun _ => False) (Fr.of_below k) (fun _ _ h => h), (h.bods b hb).2⟩⟩
theorem kinds_ne {w : World} {b : Nat} {cs cs' : Array Value} {e e' : TypeId} (h1 : w.heap[b]? = some (.cells cs e (0, 0))) (h2 : w.heap[b]? = some (.cells cs' e' (0, 0))) (hne : e ≠ e') : False := by
  rw [h1] at h2
  simp at h2
  exact hne h2.2
theorem BoSt.kinds {w0 wr w' : World} {kv bv kv' : Value} {K G : List Int} {F : List Bw} (h : BoSt w0 wr kv bv K F) (o : Own1 3 w0.heap.size w' kv' ((K.map (Value.int .i64)) ++ G.map (Value.int .i64))) (k : wr.grownBy w' kv.ownBlock) : BoSt w0 w' kv' bv (K ++ G) F := by
  have hf : Fr (fun b => kv.ownBlock = some b) wr w' := Fr.of_grown k fun b hb => hb
  refine ⟨by rw [List.map_append]; exact o, h.bo.fr hf fun b hb hX => ?_, h.below.trans (hf.below h.below.size fun j hj hX => by have := (h.ko.at hX).1; omega), fun b hb => ⟨(h.bods b hb).1.fr hf fun j hj hX => ?_, (h.bods b hb).2⟩⟩
  · obtain ⟨_, c1⟩ := h.bo.kind hb
    obtain ⟨_, c2⟩ := h.ko.kind hX
    exact kinds_ne c1 c2 (by decide)
  · obtain ⟨_, c1⟩ := (h.bods b hb).1.kind hj
    obtain ⟨_, c2⟩ := h.ko.kind hX
    exact kinds_ne c1 c2 (by decide)
theorem BoSt.more {w0 wr w' : World} {kv bv bv' : Value} {K : List Int} {F G : List Bw} (h : BoSt w0 wr kv bv K F) (hG : ∀ b ∈ G, OwnB wr b.v b.l ∧ IsByte b.l) (o : Own1 53 w0.heap.size w' bv' (F.map (·.v) ++ G.map (·.v))) (k : wr.grownBy w' bv.ownBlock) : BoSt w0 w' kv bv' K (F ++ G) := by
  have hf : Fr (fun b => bv.ownBlock = some b) wr w' := Fr.of_grown k fun b hb => hb
  have hall : ∀ b ∈ F ++ G, OwnB wr b.v b.l ∧ IsByte b.l := fun b hb => by
    rcases List.mem_append.1 hb with h1 | h1
    · exact h.bods b h1
    · exact hG b h1
  refine ⟨h.ko.fr hf fun b hb hX => ?_, by rw [List.map_append]; exact o, h.below.trans (hf.below h.below.size fun j hj hX => by have := (h.bo.at hX).1; omega), fun b hb => ⟨(hall b hb).1.fr hf fun j hj hX => ?_, (hall b hb).2⟩⟩
  · obtain ⟨_, c1⟩ := h.ko.kind hb
    obtain ⟨_, c2⟩ := h.bo.kind hX
    exact kinds_ne c1 c2 (by decide)
  · obtain ⟨_, c1⟩ := (hall b hb).1.kind hj
    obtain ⟨_, c2⟩ := h.bo.kind hX
    exact kinds_ne c1 c2 (by decide)
end Go.Proofs.YtfgaohilpbocbaaGreatDoor
end
