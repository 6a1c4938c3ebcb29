/-
  Package packet: Decode.
  Package packet: blank and plain.
  Package packet: plain.
  The shelf's contract on bytes.Join, laid at this dump.
-/
import Derived.Test.YtfgaohilpbocbaaGreatDoorMm13
import Derived.Shelf.Bytes.SlJoin
import Derived.Test.YtfgaohilpbocbaaGreatDoorRows
section
namespace Go.Proofs.YtfgaohilpbocbaaGreatDoor
open Go.ChangeShapes Go.WideShapes Go.ChangeAt Go.RowKit Go.Joins
set_option linter.unusedVariables false

theorem results_cell_tmp2 {P : Program} {fn : Func} {p u v : Tmp} {ty : TypeId} (h : fn.results = #[.cell p ty, .tmp u, .tmp v]) (tmps : Array Value) (w : World) (g : Nat) (t : TypeId) (cs : Array Value) (fr : Nat × Nat) (d : TypeDesc)
    (hp : tmps.getD p undef = .pointer (some ⟨g, 0, none⟩)) (hg : w.heap[g]? = some (.cells cs t fr))
    (hu : P.underlying ty = some d) (hd : (match d with | .struct _ | .array _ _ => true | _ => false) = true) (hi : (P.info? ty).map (·.size) = some cs.size) (a b : Value) (ha : tmps.getD u undef = a) (hb : tmps.getD v undef = b) :
    (results fn tmps).run P w = .ok (.tuple #[.agg cs, a, b]) w := by
  have hp' : tmps[p]?.getD undef = .pointer (some ⟨g, 0, none⟩) := by simpa using hp
  have ha' : tmps[u]?.getD undef = a := by simpa using ha
  have hb' : tmps[v]?.getD undef = b := by simpa using hb
  simp [results, h, hp', ha', hb', asAddr, run_loadVar_row w g t ty cs fr d hg hu hd hi]
theorem PkAt.frame {w w' : World} {p : Pk} {sa : Option Addr} {sc : Nat} {da : Option Addr} {dc : Nat} {X : Nat → Prop} (h : PkAt w p sa sc da dc) (k : Fr X w w') (h1 : ∀ q, sa = some q → ¬ X q.block) (h2 : ∀ q, da = some q → ¬ X q.block) : PkAt w' p sa sc da dc := by
  refine ⟨h.okk, ⟨h.sums.rng, h.sums.len, h.sums.most, ?_⟩, h.data.of_block fun q hq hl => k.block _ (h.data.blk q hq hl) (h2 q hq)⟩
  rcases h.sums.here with e | ⟨b, off, e, hb, hc⟩
  · exact .inl e
  · refine .inr ⟨b, off, e, Nat.lt_of_lt_of_le hb k.size, fun i hi => ?_⟩
    have hbk : w'.heap[b]? = w.heap[b]? := k.block b hb (h1 _ e)
    obtain ⟨c1, c2, c3⟩ := hc i hi
    exact ⟨(World.cell?_of_block (a := ⟨b, _, none⟩) hbk).trans c1, (World.cell?_of_block (a := ⟨b, _, none⟩) hbk).trans c2, fun j hj => (World.cell?_of_block (a := ⟨b, _, none⟩) hbk).trans (c3 j hj)⟩
theorem oneCell_pk (p : Pk) (sa : Option Addr) (sc : Nat) (da : Option Addr) (dc : Nat) : (rowArr 51 (pkV p sa sc da dc)).all (·.oneCell') = true := by
  simp only [rowArr, List.all_toArray, List.all_map, List.all_eq_true]
  intro j _
  simp only [Function.comp]
  unfold pkV
  (repeat' split) <;> first | rfl | skip
  unfold filV
  (repeat' split) <;> rfl
def DecAns (w' : World) (e : Ending) : Dec → Prop
  | .ok p n => ∃ sa sc da dc, e = .returned (.tuple #[.agg (rowArr 51 (pkV p sa sc da dc)), .int .i64 (n : Int), .int .i64 0]) ∧ PkAt w' p sa sc da dc
  | .form => e = .returned (.tuple #[.agg (rowArr 51 (pkV zPk none 0 none 0)), .int .i64 0, .int .i64 2])
  | .sum => e = .returned (.tuple #[.agg (rowArr 51 (pkV zPk none 0 none 0)), .int .i64 0, .int .i64 11])
def DecPost (l : List Nat) (w : World) (e : Ending) (w' : World) : Prop := DecAns w' e (decN l) ∧ Below w.heap.size w w'

set_option maxRecDepth 1000000 in
set_option maxHeartbeats 8000000 in
theorem decode_any (a : Option Addr) (c : Nat) (l : List Nat) (w : World) (hs : Sl w a c l) (hl : l.length ≤ 60000) (ht : Tabs w) :
    Calls Tryz.prog 44 #[.slice a l.length c] w (DecPost l w) := by
  have mixed : Tryz.prog.follows .mixedOrders = true := by kernel_rfl
  have hlm := hs.lt
  have hcm : c ≤ 9223372036854775807 := by have := hs.most; unfold maxLen at this; omega
  have HS := Lib.hid hs
  have HT := Lib.hid ht
  clear hs ht
  go_enter Tryz.func44, Tryz.ntmps44
  go_upto_region 1 with fail
  change Code.wp _ _ _ _ (w.alloc (.cells (rowArr 51 (pkV zPk none 0 none 0)) 100))
  have hHR : (w.alloc (.cells (rowArr 51 (pkV zPk none 0 none 0)) 100)).heap[w.heap.size]? = some (.cells (rowArr 51 (pkV zPk none 0 none 0)) 100 (0, 0)) := heap_alloc_last w _
  have hb0 : Below w.heap.size w (w.alloc (.cells (rowArr 51 (pkV zPk none 0 none 0)) 100)) := (Below.refl _ _).alloc (Nat.le_refl _) _
  have HRB := Lib.hid hHR
  have HB0 := Lib.hid hb0
  obtain ⟨R, hR⟩ : ∃ R, R = w.heap.size := ⟨_, rfl⟩
  have hwR : w.heap.size ≤ R := by omega
  rw [← hR] at HRB ⊢
  generalize w.alloc (.cells (rowArr 51 (pkV zPk none 0 none 0)) 100) = w0 at *
  clear hHR hb0 hR
  have HC := Lib.hid (claimed_any a c l w0 (HS.out.below HB0.out) hl)
  go_wp2_with fail
  (with_reducible refine HC.out.mono ?_)
  rintro e w1 ⟨rfl, b1⟩
  have HB1 : Hid (Below w.heap.size w w1) := HB0.out.trans (b1.mono HB0.out.size)
  have HR1 : Hid (w1.heap[R]? = some (.cells (rowArr 51 (pkV zPk none 0 none 0)) 100 (0, 0))) := (b1.block R (Array.getElem?_eq_some_iff.1 HRB.out).1).trans HRB.out
  clear b1 HC HB0 HRB
  by_cases q : claimN l = 0
  · have HD : Hid (decN l = .form) := by show _ = _; unfold decN; rw [if_pos q]
    rw [q]
    clear q
    go_upto_region 3 with fail
    go_wp2_with (refine wpList_store_arr rfl 100 _ _ rfl R _ rfl rfl 100 _ HR1.out (by kernel_rfl) ((rowArr_size _ _).trans rfl) (oneCell_pk zPk none 0 none 0) ?_; intro wz HCy hfz; have HCz : Hid (wz.heap[R]? = some (.cells (rowArr 51 (pkV zPk none 0 none 0)) 100 (0, 0))) := HCy; clear HCy)
    have HBz : Hid (Below w.heap.size w wz) := HB1.out.trans (hfz.out.below HB1.out.size fun k hk e => by omega)
    exact bodyPost_ret (v := .tuple #[.agg (rowArr 51 (pkV zPk none 0 none 0)), .int .i64 0, .int .i64 2]) (results_cell_tmp2 rfl _ _ R 100 _ (0, 0) _ rfl HCz.out Tryz.underlying100 rfl (by rw [rowArr_size]; kernel_rfl) (.int .i64 0) (.int .i64 2) rfl rfl) rfl ⟨by rw [HD.out]; rfl, HBz.out⟩
  · obtain ⟨hc1, hc2, hc3, hc4⟩ := claimN_le q
    have HCQ := Lib.hid q
    obtain ⟨b, off, rfl, _⟩ := HS.out.some (k := 0) (by omega)
    have HS1 := Lib.hid (HS.out.below HB1.out)
    have HT1 := Lib.hid (HT.out.below HB1.out)
    clear HS HT
    obtain ⟨k1, k2⟩ := cut_mid HS1.out 8 (claimN l) (by omega) hc2 (by omega) 8 (claimN l : Int) rfl rfl
    obtain ⟨k3, k4⟩ := cut_mid HS1.out 48 (claimN l) (by omega) hc2 (by omega) 48 (claimN l : Int) rfl rfl
    obtain ⟨M, hM⟩ : ∃ M, M = (l.drop 8).take (claimN l - 8) := ⟨_, rfl⟩
    have hMl : M.length = claimN l - 8 := by rw [hM]; exact mid_len hc2
    have HSET : Hid (M.take 8 = setN l) := by
      show _ = _
      rw [hM, List.take_take, Nat.min_eq_left (by omega)]
      rfl
    have HSUM : Hid ((M.drop 8).take 32 = sumD l) := by
      show _ = _
      rw [hM, List.drop_take, List.drop_drop, List.take_take, Nat.min_eq_left (by omega)]
      rfl
    have HKB : Hid (M.drop 40 = kbD l (claimN l)) := by
      show _ = _
      rw [hM, List.drop_take, List.drop_drop]
      unfold kbD
      congr 1
    have h8 : (setN l).length = 8 := by unfold setN; rw [List.length_take, List.length_drop]; omega
    have h32 : (sumD l).length = 32 := by unfold sumD; rw [List.length_take, List.length_drop]; omega
    have hkl : (kbD l (claimN l)).length = claimN l - 48 := by unfold kbD; rw [List.length_take, List.length_drop]; omega
    have b8 : IsByte (setN l) := fun y hy => HS1.out.byte y (List.mem_of_mem_drop (List.mem_of_mem_take hy))
    have b32 : IsByte (sumD l) := fun y hy => HS1.out.byte y (List.mem_of_mem_drop (List.mem_of_mem_take hy))
    have hkb : (l.drop 48).take (claimN l - 48) = kbD l (claimN l) := rfl
    rw [← hM] at k2
    rw [hkb] at k4
    have HDN : Hid (decN l = match rdN (setN l) (kbD l (claimN l)) with | none => .form | some p => if sumD l = dgN (setN l ++ kbD l (claimN l)) then .ok p (claimN l) else .sum) := by
      show _ = _
      unfold decN
      rw [if_neg q]
      rfl
    obtain ⟨n, hn⟩ : ∃ n, n = claimN l := ⟨_, rfl⟩
    rw [← hn] at hc1 hc2 k1 k3 k4 hMl HKB hkl HDN ⊢
    obtain ⟨set, hset⟩ : ∃ set, set = setN l := ⟨_, rfl⟩
    obtain ⟨sm, hsm⟩ : ∃ sm, sm = sumD l := ⟨_, rfl⟩
    obtain ⟨kb, hkbe⟩ : ∃ kb, kb = kbD l n := ⟨_, rfl⟩
    rw [← hset] at HSET h8 b8 HDN
    rw [← hsm] at HSUM h32 b32 HDN
    rw [← hkbe] at HKB hkl HDN k4
    have H8 := Lib.hid h8
    have H32 := Lib.hid h32
    have HKL := Lib.hid hkl
    have B8 := Lib.hid b8
    have B32 := Lib.hid b32
    have HML := Lib.hid hMl
    have HK4 := Lib.hid k4
    have HNW := Lib.hid (inNew_any w1 _ _ M k2 (by omega))
    rw [hMl] at HNW
    have hn0 : ((n : Int) == 0) = false := by rw [beq_eq_false_iff_ne]; omega
    clear hM hMl h8 h32 hkl b8 b32 hkb k2 k4 hn hset hsm hkbe hc3 hc4 q HCQ
    go_wp2_with fail
    (with_reducible refine HNW.out.mono ?_)
    rintro e w2 ⟨ib, X, rfl, hin, hbw⟩
    have HI2 := Lib.hid hin
    have hX : ∀ j, X j → w1.heap.size ≤ j ∧ j < w2.heap.size := hin.2.1
    have HB2 : Hid (Below w.heap.size w w2) := HB1.out.trans (hbw.mono HB1.out.size)
    have HR2 : Hid (w2.heap[R]? = some (.cells (rowArr 51 (pkV zPk none 0 none 0)) 100 (0, 0))) := (hbw.block R (Array.getElem?_eq_some_iff.1 HR1.out).1).trans HR1.out
    have hRX : ¬ X R := fun h => by have := (hX R h).1; have := (Array.getElem?_eq_some_iff.1 HR1.out).1; omega
    have h12 : w.heap.size ≤ w1.heap.size := HB1.out.size
    have h12b : w1.heap.size ≤ w2.heap.size := hbw.size
    have HB12 := Lib.hid hbw
    clear hin hbw HNW HB1 HR1 HS1
    go_upto_region 6 with fail
    change Code.wp _ _ _ _ (w2.alloc (.cells (rowArr 51 (pkV zPk none 0 none 0)) 100))
    have hHP : (w2.alloc (.cells (rowArr 51 (pkV zPk none 0 none 0)) 100)).heap[w2.heap.size]? = some (.cells (rowArr 51 (pkV zPk none 0 none 0)) 100 (0, 0)) := heap_alloc_last w2 _
    have hbP : Below w2.heap.size w2 (w2.alloc (.cells (rowArr 51 (pkV zPk none 0 none 0)) 100)) := (Below.refl _ _).alloc (Nat.le_refl _) _
    have hsP : (w2.alloc (.cells (rowArr 51 (pkV zPk none 0 none 0)) 100)).heap.size = w2.heap.size + 1 := by simp
    have HHP := Lib.hid hHP
    have HBP := Lib.hid hbP
    have HSP := Lib.hid hsP
    obtain ⟨P, hP⟩ : ∃ P, P = w2.heap.size := ⟨_, rfl⟩
    rw [← hP] at HHP HSP hX ⊢
    have hP2 : P ≤ w2.heap.size := by omega
    have hP3 : w2.heap.size ≤ P := by omega
    generalize w2.alloc (.cells (rowArr 51 (pkV zPk none 0 none 0)) 100) = w3 at *
    clear hHP hbP hsP hP
    go_upto_region 7 with fail
    change Code.wp _ _ _ _ (w3.alloc (.cells z32 50))
    have hHD : (w3.alloc (.cells z32 50)).heap[w3.heap.size]? = some (.cells z32 50 (0, 0)) := heap_alloc_last w3 _
    have hbD : Below w3.heap.size w3 (w3.alloc (.cells z32 50)) := (Below.refl _ _).alloc (Nat.le_refl _) _
    rw [HSP.out] at hHD ⊢
    have HHD := Lib.hid hHD
    have HBD := Lib.hid hbD
    generalize w3.alloc (.cells z32 50) = w4 at *
    clear hHD hbD
    have h23 : w2.heap.size ≤ w3.heap.size := HBP.out.size
    have HB24 : Hid (Below w2.heap.size w2 w4) := HBP.out.trans (HBD.out.mono h23)
    have hPX : ¬ X P := fun h => by have := (hX P h).2; omega
    have hDX : ¬ X (P + 1) := fun h => by have := (hX _ h).2; omega
    have hRP : R ≠ P := by have := (Array.getElem?_eq_some_iff.1 HR2.out).1; omega
    have hRD : R ≠ P + 1 := by have := (Array.getElem?_eq_some_iff.1 HR2.out).1; omega
    have HRR : Hid (Row w4 R 100 51 51 (pkV zPk none 0 none 0)) := Row.of_whole ((HB24.out.block R (Array.getElem?_eq_some_iff.1 HR2.out).1).trans HR2.out)
    have HRP : Hid (Row w4 P 100 51 51 (pkV zPk none 0 none 0)) := Row.of_whole ((HBD.out.block P (Array.getElem?_eq_some_iff.1 HHP.out).1).trans HHP.out)
    have HRD : Hid (Row w4 (P + 1) 50 32 32 (fun _ => .int .u8 0)) := Row.of_whole HHD.out
    have HI4 : Hid (InAt w1.heap.size X w4 ib (some M)) := HI2.out.keep (Fr.of_below (X := fun _ => False) HB24.out) fun _ _ h => h
    have HB4 : Hid (Below w.heap.size w w4) := HB2.out.trans (HB24.out.mono HB2.out.size)
    have HB14 : Hid (Below w1.heap.size w1 w4) := HB12.out.trans (HB24.out.mono h12b)
    have HNRX := Lib.hid hRX
    have HNPX := Lib.hid hPX
    have HNDX := Lib.hid hDX
    have HXX := Lib.hid hX
    clear HR2 HI2 HB2 HHP HHD HBP HBD hRX hPX hDX hX HSP HB12
    -- the name
    obtain ⟨wd, hwd⟩ : ∃ wd, wd = w4.drew := ⟨_, rfl⟩
    have HBd : Hid (Below w4.heap.size w4 wd) := by rw [hwd]; exact (Below.refl _ _).drew
    have HRW := Lib.hid (inR_read (l := M) (HI4.out.keep (Fr.of_below (X := fun _ => False) HBd.out) fun _ _ h => h) 8 8 rfl (by rw [HML.out]; omega))
    rw [HSET.out] at HRW
    refine growK_begin 4 (fun w' => ∃ u : KeepW wd X, w' = u.v) (by kernel_rfl) ?_
    rw [← hwd]
    clear hwd
    refine growK_take (by kernel_rfl) [0, 1, 2] 2 _ _ (by kernel_rfl) _ (keep_class (Fr.refl _ _)) ?_
    simp only [opsAt, List.getElem?_toArray, List.getElem?_cons_succ, List.getElem?_cons_zero]
    repeat (first | go_big_quiet_step (fail) | quiet_step (fail))
    refine wpQuiet_nil ?_
    refine growK_one 3 (by kernel_rfl) (fun K hK => ?_)
    simp only [stepOf, List.getElem?_toArray, List.getElem?_cons_succ, List.getElem?_cons_zero]
    go_simp
    go_at_call 86
    (with_reducible refine HRW.out.mono ?_)
    rintro e w5 ⟨⟨sa', sc', rfl, hs, hnew⟩, hi, hf⟩
    have HF5 : Hid (Fr X w4 w5) := (Fr.of_below HBd.out).trans hf
    have HI5 := Lib.hid hi
    have HS5 := Lib.hid hs
    have HRP5 := Lib.hid (HRP.out.fr HF5.out HNPX.out)
    have HRD5 := Lib.hid (HRD.out.fr HF5.out HNDX.out)
    have HRR5 := Lib.hid (HRR.out.fr HF5.out HNRX.out)
    refine hK.out _ _ (keep_class hf) ?_
    clear hK K hs hnew hi hf HRW HI4 HRP HRD HRR HBd
    refine growK_last (by kernel_rfl) (by kernel_rfl) (fun K hK => ?_)
    simp only [stepOf, List.getElem?_toArray, List.getElem?_cons_succ, List.getElem?_cons_zero]
    rw [if_pos (by rfl)]
    refine wp_copyB _ (.tmp 19) (.tmp 21) rfl P 0 51 51 51 8 8 (pkV zPk none 0 none 0) (pkV ⟨set, 0, 0, 0, 0, 0, zFil, [], 0, []⟩ none 0 none 0) 100 rfl sa' sc' 8 set rfl H8.out HRP5.out HS5.out (by rw [H8.out]; exact Nat.le_refl _) (by omega) (Nat.le_refl _) (fun j hj => ?_) ?_
    · rw [H8.out]
      by_cases hj8 : j < 8
      · exact .inl ⟨Nat.zero_le _, by omega, by rw [pkV_set _ _ _ _ _ hj8]; rfl⟩
      · refine .inr ⟨by omega, hj, ?_⟩
        unfold pkV
        rw [if_neg hj8, if_neg hj8]
        rfl
    intro w6 hr6 hf6
    have HF6 : Hid (Fr (fun j => X j ∨ j = P) w4 w6) := (HF5.out.mono fun j _ hj => .inl hj).trans (hf6.out.mono fun j _ hj => .inr hj)
    have HI6 := Lib.hid (HI5.out.keep hf6.out fun j hj e => HNPX.out (e ▸ hj))
    have HRD6 := Lib.hid (HRD5.out.fr hf6.out (by omega))
    have HRR6 := Lib.hid (HRR5.out.fr hf6.out hRP)
    have HRP6 := hr6
    clear hr6 hf6 HS5 HI5 HRD5 HRR5 HRP5 HF5
    refine hK.out _ _ ?_
    clear hK K
    -- the digest
    go_upto_region 8 with fail
    obtain ⟨wd, hwd⟩ : ∃ wd, wd = w6.drew := ⟨_, rfl⟩
    have HBd : Hid (Below w6.heap.size w6 wd) := by rw [hwd]; exact (Below.refl _ _).drew
    have HRW := Lib.hid (inR_read (l := M.drop 8) (HI6.out.keep (Fr.of_below (X := fun _ => False) HBd.out) fun _ _ h => h) 32 32 rfl (by rw [List.length_drop, HML.out]; omega))
    rw [HSUM.out, List.drop_drop] at HRW
    refine growK_begin 3 (fun w' => ∃ u : KeepW wd X, w' = u.v) (by kernel_rfl) ?_
    rw [← hwd]
    clear hwd
    refine growK_take (by kernel_rfl) [0, 1] 2 _ _ (by kernel_rfl) _ (keep_class (Fr.refl _ _)) ?_
    simp only [opsAt, List.getElem?_toArray, List.getElem?_cons_succ, List.getElem?_cons_zero]
    repeat (first | go_big_quiet_step (fail) | quiet_step (fail))
    refine wpQuiet_nil ?_
    refine growK_one 2 (by kernel_rfl) (fun K hK => ?_)
    simp only [stepOf, List.getElem?_toArray, List.getElem?_cons_succ, List.getElem?_cons_zero]
    go_simp
    go_at_call 86
    (with_reducible refine HRW.out.mono ?_)
    rintro e w7 ⟨⟨sa', sc', rfl, hs, hnew⟩, hi, hf⟩
    have hf' : Fr X w6 w7 := (Fr.of_below HBd.out).trans hf
    have HF7 : Hid (Fr (fun j => X j ∨ j = P) w4 w7) := HF6.out.trans (hf'.mono fun j _ hj => .inl hj)
    have HI7 := Lib.hid hi
    have HS7 := Lib.hid hs
    have HRP7 := Lib.hid (HRP6.out.fr hf' HNPX.out)
    have HRD7 := Lib.hid (HRD6.out.fr hf' HNDX.out)
    have HRR7 := Lib.hid (HRR6.out.fr hf' HNRX.out)
    refine hK.out _ _ (keep_class hf) ?_
    clear hK K hs hnew hi hf hf' HRW HI6 HRP6 HRD6 HRR6 HF6 HBd
    refine growK_last (by kernel_rfl) (by kernel_rfl) (fun K hK => ?_)
    simp only [stepOf, List.getElem?_toArray, List.getElem?_cons_succ, List.getElem?_cons_zero]
    rw [if_pos (by rfl)]
    refine wp_copyB _ (.tmp 23) (.tmp 25) rfl (P + 1) 0 32 32 32 32 32 (fun _ => .int .u8 0) (vOf sm) 50 rfl sa' sc' 32 sm rfl H32.out HRD7.out HS7.out (by rw [H32.out]; exact Nat.le_refl _) (by omega) (Nat.le_refl _) (fun j hj => .inl ⟨Nat.zero_le _, by rw [H32.out]; omega, rfl⟩) ?_
    intro w8 hr8 hf8
    have HF8 : Hid (Fr (fun j => X j ∨ j = P ∨ j = P + 1) w4 w8) := (HF7.out.mono fun j _ hj => hj.imp id .inl).trans (hf8.out.mono fun j _ hj => .inr (.inr hj))
    have HI8 := Lib.hid (HI7.out.keep hf8.out fun j hj e => HNDX.out (e ▸ hj))
    have HRP8 := Lib.hid (HRP7.out.fr hf8.out (by omega))
    have HRR8 := Lib.hid (HRR7.out.fr hf8.out hRD)
    have HRD8 := hr8
    rw [show 8 + 32 = 40 by rfl, HKB.out] at HI8
    clear hr8 hf8 HS7 HI7 HRD7 HRR7 HRP7 HF7
    refine hK.out _ _ ?_
    clear hK K
    -- kind and body
    have HRDD := Lib.hid (read_any w1.heap.size X w8 ib P set kb H8.out B8.out HI8.out HRP8.out HNPX.out)
    have HKB2 := Lib.hid (HI8.out.byte kb rfl)
    go_wp2_with fail
    (with_reducible refine HRDD.out.mono ?_)
    rintro e w9 ⟨rfl, hf9, hq9⟩
    have HRD9 := Lib.hid (HRD8.out.fr hf9 (by rintro (h | h); exact HNDX.out h; omega))
    have HRR9 := Lib.hid (HRR8.out.fr hf9 (by rintro (h | h); exact HNRX.out h; exact hRP h))
    have HF9 : Hid (Fr (fun j => X j ∨ j = P ∨ j = P + 1) w4 w9) := HF8.out.trans (hf9.mono fun j _ hj => hj.imp id .inl)
    have hlow : ∀ j, (X j ∨ j = P ∨ j = P + 1) → w1.heap.size ≤ j := fun j hj => by
      have h2 := HB4.out.size
      rcases hj with h | h | h
      · exact (HXX.out j h).1
      · omega
      · omega
    have HB9 : Hid (Below w.heap.size w w9) := HB4.out.trans (HF9.out.below HB4.out.size fun k hk h => by have := hlow k h; omega)
    have HB49 : Hid (Below w1.heap.size w4 w9) := HF9.out.below (by have := HB24.out.size; omega) fun k hk h => by have := hlow k h; omega
    have HB19 : Hid (Below w1.heap.size w1 w9) := HB14.out.trans HB49.out
    have hRl : R < w8.heap.size := HRR8.out.lt
    have HQ9 := Lib.hid hq9
    clear hf9 hq9 HRDD HI8 HRP8 HRD8 HRR8 HF8 HF9
    have HRW9 : Hid (w9.heap[R]? = some (.cells (rowArr 51 (pkV zPk none 0 none 0)) 100 (0, 0))) := HRR9.out.whole
    clear HRR9
    cases hr : rdN set kb with
    | none =>
      have HD : Hid (decN l = .form) := by show _ = _; rw [HDN.out, hr]
      clear HDN HQ9
      go_upto_region 10 with fail
      go_wp2_with (refine wpList_store_arr rfl 100 _ _ rfl R _ rfl rfl 100 _ HRW9.out (by kernel_rfl) ((rowArr_size _ _).trans rfl) (oneCell_pk zPk none 0 none 0) ?_; intro wz HCy hfz; have HCz : Hid (wz.heap[R]? = some (.cells (rowArr 51 (pkV zPk none 0 none 0)) 100 (0, 0))) := HCy; clear HCy)
      have HBz : Hid (Below w.heap.size w wz) := HB9.out.trans (hfz.out.below HB9.out.size fun k hk e => by omega)
      exact bodyPost_ret (v := .tuple #[.agg (rowArr 51 (pkV zPk none 0 none 0)), .int .i64 0, .int .i64 2]) (results_cell_tmp2 rfl _ _ R 100 _ (0, 0) _ rfl HCz.out Tryz.underlying100 rfl (by rw [rowArr_size]; kernel_rfl) (.int .i64 0) (.int .i64 2) rfl rfl) rfl ⟨by rw [HD.out]; rfl, HBz.out⟩
    | some q =>
      obtain ⟨sa, sc, da, dc, hrow, hpk, hsa, hda⟩ := HQ9.out q hr
      have HSA : Hid (∀ p, sa = some p → R ≠ p.block) := fun p hp => by have := hsa p hp; omega
      have HDA : Hid (∀ p, da = some p → R ≠ p.block) := fun p hp => by have := hda p hp; omega
      obtain ⟨hqs, _, _, _⟩ := rd_sound H8.out B8.out HKB2.out hr
      have HDN2 : Hid (decN l = if sm = dgN (set ++ kb) then .ok q n else .sum) := by show _ = _; rw [HDN.out, hr]
      have HROW := Lib.hid hrow
      have HPK := Lib.hid hpk
      have HQS := Lib.hid hqs
      clear HDN HQ9 hrow hpk hqs hr hsa hda
      go_upto_region 11 with fail
      obtain ⟨wd, hwd⟩ : ∃ wd, wd = w9.drew := ⟨_, rfl⟩
      have HBd : Hid (Below w9.heap.size w9 wd) := by rw [hwd]; exact (Below.refl _ _).drew
      have HROWd : Hid (Row wd P 100 51 51 (pkV q sa sc da dc)) := HROW.out.fr (X := fun _ => False) (Fr.of_below HBd.out) (fun h => h)
      have HRDd : Hid (Row wd (P + 1) 50 32 32 (vOf sm)) := HRD9.out.fr (X := fun _ => False) (Fr.of_below HBd.out) (fun h => h)
      have KP : Hid (∀ w, (∃ u : KeepW wd (fun _ => False), w = u.v) → ∀ j, j < 8 → w.cell? ⟨P, 0 + j, none⟩ = some (vOf set j)) := fun w hw j hj => by
        obtain ⟨u, rfl⟩ := hw
        rw [u.cell HROWd.out.lt (fun h => h), Nat.zero_add, HROWd.out.cell j (by omega), pkV_set _ _ _ _ _ hj, HQS.out]
      have KD : Hid (∀ w, (∃ u : KeepW wd (fun _ => False), w = u.v) → ∀ j, j < 32 → w.cell? ⟨P + 1, 0 + j, none⟩ = some (vOf sm j)) := fun w hw j hj => by
        obtain ⟨u, rfl⟩ := hw
        rw [u.cell HRDd.out.lt (fun h => h), Nat.zero_add, HRDd.out.cell j hj]
      have HCK := Lib.hid (check_any set (some ⟨b, off + 48, none⟩) (c - 48) kb wd H8.out B8.out ((HK4.out.below HB19.out).below HBd.out) (by rw [HKL.out]; omega) ((HT1.out.below HB19.out).below HBd.out))
      rw [HKL.out] at HCK
      have hDb := dgN_byte (set ++ kb)
      have hDl := dgN_len (set ++ kb)
      obtain ⟨D, hD⟩ : ∃ D, D = dgN (set ++ kb) := ⟨_, rfl⟩
      rw [← hD] at HCK HDN2 hDb hDl
      obtain ⟨A1, hA1⟩ : ∃ A1, A1 = rowArr 32 (vOf sm) := ⟨_, rfl⟩
      obtain ⟨A2, hA2⟩ : ∃ A2, A2 = rowArr 32 (vOf D) := ⟨_, rfl⟩
      obtain ⟨A3, hA3⟩ : ∃ A3, A3 = rowArr 8 (vOf set) := ⟨_, rfl⟩
      have V1 : Hid (rowArr 32 (vOf sm) = A1) := hA1.symm
      have V3 : Hid (rowArr 8 (vOf set) = A3) := hA3.symm
      have nn : ∀ w, (binOp .neq 50 (.agg A1) (.agg A2)).run Tryz.prog w = .ok (.bool (!decide (sm = D))) w := fun w => by
        rw [run_neq_struct, hA1, hA2, eq_arr Tryz.underlying50 B32.out hDb H32.out hDl 9998 w]
        rfl
      rw [← hA2, ← hA3] at HCK
      clear hD hDb hDl hA1 hA2 hA3
      refine growK_begin 7 (fun w' => ∃ u : KeepW wd (fun _ => False), w' = u.v) (by kernel_rfl) ?_
      rw [← hwd]
      clear hwd
      refine growK_take (by kernel_rfl) [0, 1, 2, 3, 4, 5] 2 _ _ (by kernel_rfl) _ (keep_class (Fr.refl _ _)) ?_
      simp only [opsAt, List.getElem?_toArray, List.getElem?_cons_succ, List.getElem?_cons_zero]
      repeat (first
        | (refine wpQuiet_load_v (by rfl) 50 _ rfl (P + 1) 0 32 _ A1 V1.out rfl _ KD.out Tryz.underlying50 rfl (by kernel_rfl) ?_)
        | (refine wpQuiet_load_v (by rfl) 64 _ rfl P 0 8 _ A3 V3.out rfl _ KP.out Tryz.underlying64 rfl (by kernel_rfl) ?_)
        | go_big_quiet_step (fail) | quiet_step (fail))
      refine wpQuiet_nil ?_
      clear KP KD V1 V3
      refine growK_one 6 (by kernel_rfl) (fun K hK => ?_)
      simp only [stepOf, List.getElem?_toArray, List.getElem?_cons_succ, List.getElem?_cons_zero]
      go_simp
      go_at_call 88
      (with_reducible refine HCK.out.mono ?_)
      rintro e w10 ⟨rfl, b10⟩
      have hf10 : Fr (fun _ => False) wd w10 := Fr.of_below b10
      have HROW10 := Lib.hid (HROWd.out.fr hf10 (fun h => h))
      have HB910 : Hid (Below w9.heap.size w9 w10) := HBd.out.trans (b10.mono HBd.out.size)
      refine hK.out _ _ (keep_class hf10) ?_
      clear hK K hf10 b10 HCK HROWd HRDd HBd
      refine growK_last (by kernel_rfl) (by kernel_rfl) (fun K hK => ?_)
      simp only [stepOf, List.getElem?_toArray, List.getElem?_cons_succ, List.getElem?_cons_zero]
      go_simp
      refine hK.out _ _ ?_
      clear hK K nn
      have HB10 : Hid (Below w.heap.size w w10) := HB9.out.trans (HB910.out.mono HB9.out.size)
      have HPK10 := Lib.hid (HPK.out.below HB910.out)
      have HRW10 : Hid (w10.heap[R]? = some (.cells (rowArr 51 (pkV zPk none 0 none 0)) 100 (0, 0))) := (HB910.out.block R (Array.getElem?_eq_some_iff.1 HRW9.out).1).trans HRW9.out
      clear HB9 HB910 HPK HRW9 HROW HRD9
      by_cases hsd : sm = D
      · have HD : Hid (decN l = .ok q n) := by show _ = _; rw [HDN2.out, if_pos hsd]
        rw [decide_eq_true hsd]
        clear hsd HDN2
        have HWH := Lib.hid HROW10.out.whole
        obtain ⟨AQ, hAQ⟩ : ∃ AQ, AQ = rowArr 51 (pkV q sa sc da dc) := ⟨_, rfl⟩
        have hone : AQ.all (·.oneCell') = true := by rw [hAQ]; exact oneCell_pk _ _ _ _ _
        have hAQs : AQ.size = 51 := by rw [hAQ, rowArr_size]
        have HAQ := Lib.hid hAQ
        rw [← hAQ] at HWH
        have HON := Lib.hid hone
        have HAS := Lib.hid hAQs
        clear hAQ hone hAQs
        go_upto_region 13 with fail
        go_wp2_with (first
          | (refine wpList_load_row rfl 100 _ rfl P rfl 100 AQ (0, 0) _ HWH.out Tryz.underlying100 rfl (by rw [HAS.out]; kernel_rfl) ?_)
          | (refine wpList_store_arr rfl 100 _ _ rfl R AQ rfl rfl 100 _ HRW10.out (by rw [HAS.out]; kernel_rfl) (by rw [HAS.out, rowArr_size]) HON.out ?_; intro wz HCz hfz))
        have hbz : Below w.heap.size w wz := HB10.out.trans (hfz.out.below HB10.out.size fun k hk e => by omega)
        have HPZ : PkAt wz q sa sc da dc := HPK10.out.frame hfz.out (fun p hp e => HSA.out p hp e.symm) (fun p hp e => HDA.out p hp e.symm)
        exact bodyPost_ret (v := .tuple #[.agg AQ, .int .i64 (n : Int), .int .i64 0]) (results_cell_tmp2 rfl _ _ R 100 _ (0, 0) _ rfl HCz.out Tryz.underlying100 rfl (by rw [HAS.out]; kernel_rfl) (.int .i64 (n : Int)) (.int .i64 0) rfl rfl) rfl ⟨by rw [HD.out]; exact ⟨sa, sc, da, dc, by rw [HAQ.out], HPZ⟩, hbz⟩
      · have HD : Hid (decN l = .sum) := by show _ = _; rw [HDN2.out, if_neg hsd]
        rw [decide_eq_false hsd]
        clear hsd HDN2
        go_upto_region 12 with fail
        go_wp2_with (refine wpList_store_arr rfl 100 _ _ rfl R _ rfl rfl 100 _ HRW10.out (by kernel_rfl) ((rowArr_size _ _).trans rfl) (oneCell_pk zPk none 0 none 0) ?_; intro wz HCy hfz; have HCz : Hid (wz.heap[R]? = some (.cells (rowArr 51 (pkV zPk none 0 none 0)) 100 (0, 0))) := HCy; clear HCy)
        have HBz : Hid (Below w.heap.size w wz) := HB10.out.trans (hfz.out.below HB10.out.size fun k hk e => by omega)
        exact bodyPost_ret (v := .tuple #[.agg (rowArr 51 (pkV zPk none 0 none 0)), .int .i64 0, .int .i64 11]) (results_cell_tmp2 rfl _ _ R 100 _ (0, 0) _ rfl HCz.out Tryz.underlying100 rfl (by rw [rowArr_size]; kernel_rfl) (.int .i64 0) (.int .i64 11) rfl rfl) rfl ⟨by rw [HD.out]; rfl, HBz.out⟩
end Go.Proofs.YtfgaohilpbocbaaGreatDoor
end

section
namespace Go.Proofs.YtfgaohilpbocbaaGreatDoor
open Go.ChangeShapes Go.WideShapes Go.ChangeAt Go.RowKit Go.Joins
set_option linter.unusedVariables false

/-- Nothing of any kind is told. -/
def blankP (p : Pk) : Prop := p.slice = 0 ∧ p.files = 0 ∧ p.slices = 0 ∧ p.index = 0 ∧ p.file = zFil ∧ p.sums = [] ∧ p.id = 0 ∧ p.data = []
instance blankD (p : Pk) : Decidable (blankP p) := by
  have : Decidable (p.sums = []) := decidable_of_iff (p.sums.length = 0) List.length_eq_zero_iff
  have : Decidable (p.data = []) := decidable_of_iff (p.data.length = 0) List.length_eq_zero_iff
  unfold blankP
  exact inferInstance
/-- A kind that is one, and nothing of another one's. -/
def plainP (p : Pk) : Prop :=
  (p.kind = 1 ∧ blankP ⟨p.set, p.kind, 0, 0, 0, p.index, p.file, p.sums, p.id, p.data⟩) ∨ (p.kind = 2 ∧ blankP ⟨p.set, p.kind, p.slice, p.files, p.slices, 0, zFil, p.sums, p.id, p.data⟩) ∨
  (p.kind = 3 ∧ blankP ⟨p.set, p.kind, p.slice, p.files, p.slices, 0, p.file, [], p.id, p.data⟩) ∨ (p.kind = 4 ∧ (1 ≤ p.data.length ∧ p.data.length ≤ 256) ∧ blankP ⟨p.set, p.kind, p.slice, p.files, p.slices, p.index, p.file, p.sums, 0, []⟩)
instance plainD (p : Pk) : Decidable (plainP p) := by unfold plainP; exact inferInstance
def zF : Array Value := #[.string { data := #[] }, .int .i64 0, .int .u8 0, .int .u8 0, .int .u8 0, .int .u8 0, .int .u8 0, .int .u8 0, .int .u8 0, .int .u8 0, .int .u8 0, .int .u8 0, .int .u8 0, .int .u8 0, .int .u8 0, .int .u8 0, .int .u8 0, .int .u8 0, .int .u8 0, .int .u8 0, .int .u8 0, .int .u8 0, .int .u8 0, .int .u8 0, .int .u8 0, .int .u8 0, .int .u8 0, .int .u8 0, .int .u8 0, .int .u8 0, .int .u8 0, .int .u8 0, .int .u8 0, .int .u8 0, .int .i64 0]
theorem zF_eq : zF = rowArr 35 (filV zFil) := rfl

set_option maxRecDepth 1000000 in
set_option maxHeartbeats 4000000 in
theorem blank_any (p : Pk) (sa : Option Addr) (sc : Nat) (da : Option Addr) (dc : Nat) (w : World) (hf : FilOk p.file) (hsl : p.sums.length ≤ 9223372036854775807) (hdl : p.data.length ≤ 9223372036854775807) :
    Calls Tryz.prog 182 #[.agg (rowArr 51 (pkV p sa sc da dc))] w fun e w' => e = .returned (.bool (decide (blankP p))) ∧ Below w.heap.size w w' := by
  have mixed : Tryz.prog.follows .mixedOrders = true := by kernel_rfl
  have HB : Hid (Below w.heap.size w (w.alloc (.cells (rowArr 51 (pkV p sa sc da dc)) 100))) := (Below.refl _ _).alloc (Nat.le_refl _) _
  have HP : Hid (PkBlk (w.alloc (.cells (rowArr 51 (pkV p sa sc da dc)) 100)) w.heap.size p sa sc da dc) := PkBlk.new w p sa sc da dc
  obtain ⟨arr, harr⟩ : ∃ arr, arr = rowArr 51 (pkV p sa sc da dc) := ⟨_, rfl⟩
  rw [← harr] at HB HP ⊢
  obtain ⟨FA, hFA⟩ : ∃ FA, FA = rowArr 35 (filV p.file) := ⟨_, rfl⟩
  have hnf : ∀ w, (binOp .eql 98 (.agg FA) (.agg #[.string { data := #[] }, .int .i64 0, .int .u8 0, .int .u8 0, .int .u8 0, .int .u8 0, .int .u8 0, .int .u8 0, .int .u8 0, .int .u8 0, .int .u8 0, .int .u8 0, .int .u8 0, .int .u8 0, .int .u8 0, .int .u8 0, .int .u8 0, .int .u8 0, .int .u8 0, .int .u8 0, .int .u8 0, .int .u8 0, .int .u8 0, .int .u8 0, .int .u8 0, .int .u8 0, .int .u8 0, .int .u8 0, .int .u8 0, .int .u8 0, .int .u8 0, .int .u8 0, .int .u8 0, .int .u8 0, .int .i64 0])).run Tryz.prog w = .ok (.bool (decide (p.file = zFil))) w := fun w => by
    show (binOp .eql 98 (.agg FA) (.agg zF)).run Tryz.prog w = _
    rw [run_eql_struct, hFA, zF_eq, eq_file hf zFil_ok 9997 w]
    rfl
  have HV : Hid ((rowArr 35 fun j => pkV p sa sc da dc (13 + j)) = FA) := by show _ = _; rw [pk_file, hFA]
  have HRR : Hid (blankP p ↔ (p.slice = 0 ∧ p.files = 0 ∧ p.slices = 0 ∧ p.index = 0 ∧ p.file = zFil ∧ p.sums.length = 0 ∧ p.id = 0 ∧ p.data.length = 0)) := by
    show _ ↔ _
    unfold blankP
    rw [List.length_eq_zero_iff, List.length_eq_zero_iff]
  obtain ⟨RB, hRB⟩ : ∃ RB, RB = decide (blankP p) := ⟨_, rfl⟩
  rw [← hRB]
  have HRB := Lib.hid hRB
  clear harr hFA hRB hf
  go_enter Tryz.func182, Tryz.ntmps182
  go_upto_region 1 with fail
  obtain ⟨w1, hw1⟩ : ∃ w1, w1 = w.alloc (.cells arr 100) := ⟨_, rfl⟩
  obtain ⟨B, hB⟩ : ∃ B, B = w.heap.size := ⟨_, rfl⟩
  rw [← hw1, ← hB] at HP
  rw [← hw1] at HB
  rw [← hw1, ← hB]
  have c9 : w1.cell? ⟨B, 9, none⟩ = some (.int .i64 p.slice) := HP.out.at (by omega)
  have c10 : w1.cell? ⟨B, 10, none⟩ = some (.int .i64 p.files) := HP.out.at (by omega)
  have c11 : w1.cell? ⟨B, 11, none⟩ = some (.int .i64 p.slices) := HP.out.at (by omega)
  have c12 : w1.cell? ⟨B, 12, none⟩ = some (.int .i64 p.index) := HP.out.at (by omega)
  have c48 : w1.cell? ⟨B, 48, none⟩ = some (.slice sa p.sums.length sc) := HP.out.at (by omega)
  have c49 : w1.cell? ⟨B, 49, none⟩ = some (.int .u32 (p.id : Int)) := HP.out.at (by omega)
  have c50 : w1.cell? ⟨B, 50, none⟩ = some (.slice da p.data.length dc) := HP.out.at (by omega)
  have HG : Hid (∀ j, j < 35 → w1.cell? ⟨B, 13 + j, none⟩ = some (pkV p sa sc da dc (13 + j))) := fun j hj => HP.out.at (by omega)
  clear hw1 hB HP
  by_cases q0 : p.slice = 0
  · have d0 : ((p.slice : Int) == 0) = true := beq_iff_eq.2 q0
    by_cases q1 : p.files = 0
    · have d1 : ((p.files : Int) == 0) = true := beq_iff_eq.2 q1
      by_cases q2 : p.slices = 0
      · have d2 : ((p.slices : Int) == 0) = true := beq_iff_eq.2 q2
        by_cases q3 : p.index = 0
        · have d3 : ((p.index : Int) == 0) = true := beq_iff_eq.2 q3
          by_cases q4 : p.file = zFil
          · have d4 : ∀ w, (binOp .eql 98 (.agg FA) (.agg #[.string { data := #[] }, .int .i64 0, .int .u8 0, .int .u8 0, .int .u8 0, .int .u8 0, .int .u8 0, .int .u8 0, .int .u8 0, .int .u8 0, .int .u8 0, .int .u8 0, .int .u8 0, .int .u8 0, .int .u8 0, .int .u8 0, .int .u8 0, .int .u8 0, .int .u8 0, .int .u8 0, .int .u8 0, .int .u8 0, .int .u8 0, .int .u8 0, .int .u8 0, .int .u8 0, .int .u8 0, .int .u8 0, .int .u8 0, .int .u8 0, .int .u8 0, .int .u8 0, .int .u8 0, .int .u8 0, .int .i64 0])).run Tryz.prog w = .ok (.bool true) w := fun w => by rw [hnf, decide_eq_true q4]
            by_cases q5 : p.sums.length = 0
            · have d5 : ((p.sums.length : Int) == 0) = true := beq_iff_eq.2 (by omega)
              by_cases q6 : p.id = 0
              · have d6 : ((p.id : Int) == 0) = true := beq_iff_eq.2 (by omega)
                by_cases q7 : p.data.length = 0
                · have d7 : ((p.data.length : Int) == 0) = true := beq_iff_eq.2 (by omega)
                  have HR : Hid (RB = true) := by show _ = _; rw [HRB.out]; exact decide_eq_true (HRR.out.2 ⟨q0, q1, q2, q3, q4, q5, q6, q7⟩)
                  clear HRR HRB hnf q0 q1 q2 q3 q4 q5 q6 q7
                  go_wp2_with (refine wpList_load_v (by rfl) 98 _ rfl B 13 35 _ FA HV.out rfl _ HG.out Tryz.underlying98 rfl (by kernel_rfl) ?_)
                  go_ret
                  exact ⟨ret_bool HR.out.symm, HB.out⟩
                · have n7 := q7
                  clear q7
                  have d7 : ((p.data.length : Int) == 0) = false := beq_eq_false_iff_ne.2 (by omega)
                  have HR : Hid (RB = false) := by show _ = _; rw [HRB.out]; exact decide_eq_false fun h => n7 (HRR.out.1 h).2.2.2.2.2.2.2
                  clear HRR HRB hnf q0 q1 q2 q3 q4 q5 q6 n7
                  go_wp2_with (refine wpList_load_v (by rfl) 98 _ rfl B 13 35 _ FA HV.out rfl _ HG.out Tryz.underlying98 rfl (by kernel_rfl) ?_)
                  go_ret
                  exact ⟨ret_bool HR.out.symm, HB.out⟩
              · have n6 := q6
                clear q6
                have d6 : ((p.id : Int) == 0) = false := beq_eq_false_iff_ne.2 (by omega)
                have HR : Hid (RB = false) := by show _ = _; rw [HRB.out]; exact decide_eq_false fun h => n6 (HRR.out.1 h).2.2.2.2.2.2.1
                clear HRR HRB hnf q0 q1 q2 q3 q4 q5 n6
                go_wp2_with (refine wpList_load_v (by rfl) 98 _ rfl B 13 35 _ FA HV.out rfl _ HG.out Tryz.underlying98 rfl (by kernel_rfl) ?_)
                go_ret
                exact ⟨ret_bool HR.out.symm, HB.out⟩
            · have n5 := q5
              clear q5
              have d5 : ((p.sums.length : Int) == 0) = false := beq_eq_false_iff_ne.2 (by omega)
              have HR : Hid (RB = false) := by show _ = _; rw [HRB.out]; exact decide_eq_false fun h => n5 (HRR.out.1 h).2.2.2.2.2.1
              clear HRR HRB hnf q0 q1 q2 q3 q4 n5
              go_wp2_with (refine wpList_load_v (by rfl) 98 _ rfl B 13 35 _ FA HV.out rfl _ HG.out Tryz.underlying98 rfl (by kernel_rfl) ?_)
              go_ret
              exact ⟨ret_bool HR.out.symm, HB.out⟩
          · have n4 := q4
            clear q4
            have d4 : ∀ w, (binOp .eql 98 (.agg FA) (.agg #[.string { data := #[] }, .int .i64 0, .int .u8 0, .int .u8 0, .int .u8 0, .int .u8 0, .int .u8 0, .int .u8 0, .int .u8 0, .int .u8 0, .int .u8 0, .int .u8 0, .int .u8 0, .int .u8 0, .int .u8 0, .int .u8 0, .int .u8 0, .int .u8 0, .int .u8 0, .int .u8 0, .int .u8 0, .int .u8 0, .int .u8 0, .int .u8 0, .int .u8 0, .int .u8 0, .int .u8 0, .int .u8 0, .int .u8 0, .int .u8 0, .int .u8 0, .int .u8 0, .int .u8 0, .int .u8 0, .int .i64 0])).run Tryz.prog w = .ok (.bool false) w := fun w => by rw [hnf, decide_eq_false n4]
            have HR : Hid (RB = false) := by show _ = _; rw [HRB.out]; exact decide_eq_false fun h => n4 (HRR.out.1 h).2.2.2.2.1
            clear HRR HRB hnf q0 q1 q2 q3 n4
            go_wp2_with (refine wpList_load_v (by rfl) 98 _ rfl B 13 35 _ FA HV.out rfl _ HG.out Tryz.underlying98 rfl (by kernel_rfl) ?_)
            go_ret
            exact ⟨ret_bool HR.out.symm, HB.out⟩
        · have n3 := q3
          clear q3
          have d3 : ((p.index : Int) == 0) = false := beq_eq_false_iff_ne.2 n3
          have HR : Hid (RB = false) := by show _ = _; rw [HRB.out]; exact decide_eq_false fun h => n3 (HRR.out.1 h).2.2.2.1
          clear HRR HRB hnf q0 q1 q2 n3
          go_wp2_with (refine wpList_load_v (by rfl) 98 _ rfl B 13 35 _ FA HV.out rfl _ HG.out Tryz.underlying98 rfl (by kernel_rfl) ?_)
          go_ret
          exact ⟨ret_bool HR.out.symm, HB.out⟩
      · have n2 := q2
        clear q2
        have d2 : ((p.slices : Int) == 0) = false := beq_eq_false_iff_ne.2 n2
        have HR : Hid (RB = false) := by show _ = _; rw [HRB.out]; exact decide_eq_false fun h => n2 (HRR.out.1 h).2.2.1
        clear HRR HRB hnf q0 q1 n2
        go_wp2_with (refine wpList_load_v (by rfl) 98 _ rfl B 13 35 _ FA HV.out rfl _ HG.out Tryz.underlying98 rfl (by kernel_rfl) ?_)
        go_ret
        exact ⟨ret_bool HR.out.symm, HB.out⟩
    · have n1 := q1
      clear q1
      have d1 : ((p.files : Int) == 0) = false := beq_eq_false_iff_ne.2 n1
      have HR : Hid (RB = false) := by show _ = _; rw [HRB.out]; exact decide_eq_false fun h => n1 (HRR.out.1 h).2.1
      clear HRR HRB hnf q0 n1
      go_wp2_with (refine wpList_load_v (by rfl) 98 _ rfl B 13 35 _ FA HV.out rfl _ HG.out Tryz.underlying98 rfl (by kernel_rfl) ?_)
      go_ret
      exact ⟨ret_bool HR.out.symm, HB.out⟩
  · have n0 := q0
    clear q0
    have d0 : ((p.slice : Int) == 0) = false := beq_eq_false_iff_ne.2 n0
    have HR : Hid (RB = false) := by show _ = _; rw [HRB.out]; exact decide_eq_false fun h => n0 (HRR.out.1 h).1
    clear HRR HRB hnf  n0
    go_wp2_with (refine wpList_load_v (by rfl) 98 _ rfl B 13 35 _ FA HV.out rfl _ HG.out Tryz.underlying98 rfl (by kernel_rfl) ?_)
    go_ret
    exact ⟨ret_bool HR.out.symm, HB.out⟩
end Go.Proofs.YtfgaohilpbocbaaGreatDoor
end

section
namespace Go.Proofs.YtfgaohilpbocbaaGreatDoor
open Go.ChangeShapes Go.WideShapes Go.ChangeAt Go.RowKit Go.Joins
set_option linter.unusedVariables false

theorem run_storeVar_part {P : Program} (w : World) (g o : Nat) (t ty : TypeId) (old cells : Array Value) (hg : w.heap[g]? = some (.cells old t (0, 0))) (hi : (P.info? ty).map (·.size) = some cells.size)
    (ho : o + cells.size ≤ old.size) (h1 : cells.all (·.oneCell') = true) :
    (storeVar ty ⟨g, o, none⟩ (.agg cells)).run P w = .ok () (w.setRow g (old.toList.take o ++ cells.toList ++ old.toList.drop (o + cells.size)).toArray) := by
  have := run_storeCells_at P g o t cells.toList 0 old w hg (by simpa using ho) (fun v hv => (Array.all_eq_true_iff_forall_mem.1 h1) v (by simpa using hv))
  cases hq : P.info? ty with
  | none => simp [hq] at hi
  | some i =>
    have hs : cells.size = i.size := by simp [hq] at hi; omega
    simp only [Nat.add_zero, Array.length_toList] at this
    rw [hs] at this
    simp [storeVar, sizeOf, typeInfo, hq, Value.cells, hs, this]
/-- A struct or an array stored into a part of a block. -/
theorem wpList_store_part {ops : Array Oper} {rest : List Oper} {o : Oper} {a : Act} {w : World} {Q : Exit → Act → World → Prop} (hgd : o.guard = none) (ty : TypeId) (x y : Operand) (ho : o.op = .store ty x y)
    (g off n N : Nat) (F F' : Nat → Value) (t : TypeId) (cells : Array Value) (hx : a.eval x = .pointer (some ⟨g, off, none⟩)) (hy : a.eval y = .agg cells) (hg : Row w g t N N F)
    (hi : (Tryz.prog.info? ty).map (·.size) = some cells.size) (hn : cells.size = n) (ho2 : off + n ≤ N) (h1 : cells.all (·.oneCell') = true)
    (hf : ∀ j, j < N → (off ≤ j ∧ j < off + n ∧ cells[j - off]? = some (F' j)) ∨ ((j < off ∨ off + n ≤ j) ∧ F' j = F j))
    (h : ∀ w', Hid (Row w' g t N N F') → Hid (Fr (fun k => k = g) w w') → wpList Tryz.prog ops Q rest (a.put o.dst undef) w') : wpList Tryz.prog ops Q (o :: rest) a w := by
  subst hn
  refine wpList_plain hgd fun K hK => ?_
  have hw := hg.whole
  have hr := run_storeVar_part (P := Tryz.prog) w g off t ty _ cells hw hi (by rw [rowArr_size]; exact ho2) h1
  unfold Oper.wp execOp
  simp only [ho, hx, hy, Instr.storeAt, Instr.sureAddr, Sem.run_bind, Sem.run_pure, Result.andThen_ok, hr]
  refine hK _ _ (h _ ⟨_, setRow_heap _ _ _ _ _ _ hw, ?_, fun j hj => ?_⟩ (Fr.setRow (X := fun k => k = g) (Fr.refl _ w) (fun _ => rfl) _))
  · have : (rowArr N F).toList.length = N := by rw [Array.length_toList, rowArr_size]
    simp only [List.size_toArray, List.length_append, List.length_take, List.length_drop, this, Array.length_toList]
    omega
  · have hcl : (rowArr N F).toList.length = N := by rw [Array.length_toList, rowArr_size]
    have htl : ((rowArr N F).toList.take off).length = off := by rw [List.length_take, hcl]; omega
    rw [List.getElem?_toArray]
    rcases hf j hj with ⟨h4, h5, h6⟩ | ⟨h4, h6⟩
    · rw [List.getElem?_append_left (by rw [List.length_append, htl, Array.length_toList]; omega), List.getElem?_append_right (by rw [htl]; exact h4), htl, ← h6]
      simp
    · have hF : (rowArr N F).toList[j]? = some (F j) := by rw [rowArr_get, if_pos hj]
      rw [h6]
      rcases h4 with h4 | h4
      · rw [List.getElem?_append_left (by rw [List.length_append, htl]; omega), List.getElem?_append_left (by rw [htl]; exact h4), List.getElem?_take, if_pos h4, hF]
      · rw [List.getElem?_append_right (by rw [List.length_append, htl, Array.length_toList]; exact h4), List.length_append, htl, Array.length_toList, List.getElem?_drop, show off + cells.size + (j - (off + cells.size)) = j by omega, hF]
theorem Row.put {w : World} {P : Nat} {p : Pk} {sa : Option Addr} {sc : Nat} {da : Option Addr} {dc : Nat} (h : Row w P 100 51 51 (pkV p sa sc da dc)) {i : Nat} (hi : i < 51) {v : Value} (p' : Pk) (sa' : Option Addr) (sc' : Nat) (da' : Option Addr) (dc' : Nat) (hv : ∀ j, j < 51 → pkV p' sa' sc' da' dc' j = if j = i then v else pkV p sa sc da dc j) : Row (w.setCell ⟨P, i, none⟩ v) P 100 51 51 (pkV p' sa' sc' da' dc') :=
  (h.upd i hi v).mono (Nat.le_refl _) fun j hj => (hv j hj).symm
theorem below_cellB {n : Nat} {w w1 : World} (h : Below n w w1) (hn : n ≤ w1.heap.size) {B : Nat} (hB : n ≤ B) (i : Nat) (v : Value) : Below n w (w1.setCell ⟨B, i, none⟩ v) :=
  h.trans ((Fr.set (X := fun j => j = B) (p := ⟨B, i, none⟩) (Fr.refl _ w1) (fun _ => rfl) v).below hn fun k hk e => by omega)
theorem pkV_zfile (p : Pk) (sa : Option Addr) (sc : Nat) (da : Option Addr) (dc : Nat) : ∀ j, j < 51 → (13 ≤ j ∧ j < 13 + 35 ∧ (rowArr 35 (filV zFil))[j - 13]? = some (pkV { p with file := zFil } sa sc da dc j)) ∨ ((j < 13 ∨ 13 + 35 ≤ j) ∧ pkV { p with file := zFil } sa sc da dc j = pkV p sa sc da dc j) := fun j hj => by
  by_cases h : 13 ≤ j ∧ j < 48
  · refine .inl ⟨h.1, by omega, ?_⟩
    rw [pkV_fil _ _ _ _ _ h.1 h.2]
    simp [rowArr, show j - 13 < 35 by omega]
  · refine .inr ⟨by omega, ?_⟩
    unfold pkV
    (repeat' split) <;> first | rfl | (exfalso; omega)

theorem oneCell_fil (f : Fil) : (rowArr 35 (filV f)).all (·.oneCell') = true := by
  simp only [rowArr, List.all_toArray, List.all_map, List.all_eq_true]
  intro j _
  simp only [Function.comp]
  unfold filV
  (repeat' split) <;> rfl
set_option maxRecDepth 1000000 in
set_option maxHeartbeats 4000000 in
theorem plain_any (p : Pk) (sa : Option Addr) (sc : Nat) (da : Option Addr) (dc : Nat) (w : World) (hf : FilOk p.file) (hsl : p.sums.length ≤ 1000000) (hdl : p.data.length ≤ 1000000) :
    Calls Tryz.prog 140 #[.agg (rowArr 51 (pkV p sa sc da dc))] w fun e w' => e = .returned (.bool (decide (plainP p))) ∧ Below w.heap.size w w' := by
  have mixed : Tryz.prog.follows .mixedOrders = true := by kernel_rfl
  have hHB : Below w.heap.size w (w.alloc (.cells (rowArr 51 (pkV p sa sc da dc)) 100)) := (Below.refl _ _).alloc (Nat.le_refl _) _
  have hHP : Row (w.alloc (.cells (rowArr 51 (pkV p sa sc da dc)) 100)) w.heap.size 100 51 51 (pkV p sa sc da dc) := Row.of_whole (heap_alloc_last w _)
  have HB := Lib.hid hHB
  have HP := Lib.hid hHP
  obtain ⟨arr, harr⟩ : ∃ arr, arr = rowArr 51 (pkV p sa sc da dc) := ⟨_, rfl⟩
  rw [← harr] at HB HP ⊢
  have HFO := Lib.hid hf
  obtain ⟨RB, hRB⟩ : ∃ RB, RB = decide (plainP p) := ⟨_, rfl⟩
  rw [← hRB]
  have HRB := Lib.hid hRB
  clear harr hRB hf hHB hHP
  go_enter Tryz.func140, Tryz.ntmps140
  go_upto_region 1 with fail
  obtain ⟨B, hB⟩ : ∃ B, B = w.heap.size := ⟨_, rfl⟩
  have hwB : w.heap.size ≤ B := by omega
  rw [← hB] at HP ⊢
  generalize w.alloc (.cells arr 100) = w1 at *
  clear hB
  obtain ⟨set, kd, sl, fs, ss, ix, fl, sm, id, dt⟩ := p
  simp only at hsl hdl HFO
  have c8 : w1.cell? ⟨B, 8, none⟩ = some (.int .i64 kd) := HP.out.cell 8 (by omega)
  by_cases k1 : kd = 1
  · subst k1
    have c9 := HP.out.cell 9 (by omega)
    have f9 := HP.out.loose 9
    have c10 := HP.out.cell 10 (by omega)
    have f10 := HP.out.loose 10
    have c11 := HP.out.cell 11 (by omega)
    have f11 := HP.out.loose 11
    go_upto_region 13 with fail
    have HQ : Hid (Row (((w1.setCell ⟨B, 9, none⟩ (.int .i64 0)).setCell ⟨B, 10, none⟩ (.int .i64 0)).setCell ⟨B, 11, none⟩ (.int .i64 0)) B 100 51 51 (pkV ⟨set, 1, 0, 0, 0, ix, fl, sm, id, dt⟩ sa sc da dc)) :=
      ((HP.out.put (by omega) ⟨set, 1, 0, fs, ss, ix, fl, sm, id, dt⟩ sa sc da dc (pkV_slice ⟨set, 1, sl, fs, ss, ix, fl, sm, id, dt⟩ sa sc da dc 0)).put (by omega) ⟨set, 1, 0, 0, ss, ix, fl, sm, id, dt⟩ sa sc da dc (pkV_files ⟨set, 1, 0, fs, ss, ix, fl, sm, id, dt⟩ sa sc da dc 0)).put (by omega) ⟨set, 1, 0, 0, 0, ix, fl, sm, id, dt⟩ sa sc da dc (pkV_slices ⟨set, 1, 0, 0, ss, ix, fl, sm, id, dt⟩ sa sc da dc 0)
    have HBq : Hid (Below w.heap.size w (((w1.setCell ⟨B, 9, none⟩ (.int .i64 0)).setCell ⟨B, 10, none⟩ (.int .i64 0)).setCell ⟨B, 11, none⟩ (.int .i64 0))) := (below_cellB (below_cellB (below_cellB HB.out (by simpa using HB.out.size) hwB _ _) (by simpa using HB.out.size) hwB _ _) (by simpa using HB.out.size) hwB _ _)
    generalize ((w1.setCell ⟨B, 9, none⟩ (.int .i64 0)).setCell ⟨B, 10, none⟩ (.int .i64 0)).setCell ⟨B, 11, none⟩ (.int .i64 0) = w2 at *
    clear c8 c9 c10 c11 f9 f10 f11 HP HB
    have HRE : Hid (RB = decide (blankP ⟨set, 1, 0, 0, 0, ix, fl, sm, id, dt⟩)) := by
      show _ = _
      rw [HRB.out]
      refine decide_eq_decide.2 ?_
      unfold plainP
      simp only
      simp
    have HBL := Lib.hid (blank_any ⟨set, 1, 0, 0, 0, ix, fl, sm, id, dt⟩ sa sc da dc w2 HFO.out (by simp only; omega) (by simp only; omega))
    rw [← HRE.out] at HBL
    clear HRE HRB
    have HWH := Lib.hid HQ.out.whole
    obtain ⟨AQ, hAQ⟩ : ∃ AQ, AQ = rowArr 51 (pkV ⟨set, 1, 0, 0, 0, ix, fl, sm, id, dt⟩ sa sc da dc) := ⟨_, rfl⟩
    have hAQs : AQ.size = 51 := by rw [hAQ, rowArr_size]
    rw [← hAQ] at HBL HWH
    have HAS := Lib.hid hAQs
    clear hAQ hAQs HQ
    go_wp2_with (refine wpList_load_row rfl 100 _ rfl B rfl 100 AQ (0, 0) _ HWH.out Tryz.underlying100 rfl (by rw [HAS.out]; kernel_rfl) ?_)
    (with_reducible refine HBL.out.mono ?_)
    rintro e wz ⟨rfl, bz⟩
    have HBz : Hid (Below w.heap.size w wz) := HBq.out.trans (bz.mono HBq.out.size)
    clear bz HBL HBq
    go_wp2_with fail
    go_ret
    exact ⟨rfl, HBz.out⟩
  by_cases k2 : kd = 2
  · subst k2
    have c12 := HP.out.cell 12 (by omega)
    have f12 := HP.out.loose 12
    go_upto_region 6 with fail
    have HQ1 : Hid (Row (w1.setCell ⟨B, 12, none⟩ (.int .i64 0)) B 100 51 51 (pkV ⟨set, 2, sl, fs, ss, 0, fl, sm, id, dt⟩ sa sc da dc)) := HP.out.put (by omega) ⟨set, 2, sl, fs, ss, 0, fl, sm, id, dt⟩ sa sc da dc (pkV_index ⟨set, 2, sl, fs, ss, ix, fl, sm, id, dt⟩ sa sc da dc 0)
    have HBq1 : Hid (Below w.heap.size w (w1.setCell ⟨B, 12, none⟩ (.int .i64 0))) := (below_cellB HB.out (by simpa using HB.out.size) hwB _ _)
    go_upto_region 13 with (refine wpList_store_part rfl 98 _ _ rfl B 13 35 51 _ (pkV ⟨set, 2, sl, fs, ss, 0, zFil, sm, id, dt⟩ sa sc da dc) 100 _ rfl rfl HQ1.out (by kernel_rfl) rfl (by omega) (oneCell_fil zFil) (pkV_zfile ⟨set, 2, sl, fs, ss, 0, fl, sm, id, dt⟩ sa sc da dc) ?_; intro w2 HQ hf2; have HBq : Hid (Below w.heap.size w w2) := HBq1.out.trans (hf2.out.below HBq1.out.size fun k hk e => by omega); clear hf2)
    clear c8 c12 f12 HP HB HQ1 HBq1
    have HRE : Hid (RB = decide (blankP ⟨set, 2, sl, fs, ss, 0, zFil, sm, id, dt⟩)) := by
      show _ = _
      rw [HRB.out]
      refine decide_eq_decide.2 ?_
      unfold plainP
      simp only
      simp
    have HBL := Lib.hid (blank_any ⟨set, 2, sl, fs, ss, 0, zFil, sm, id, dt⟩ sa sc da dc w2 zFil_ok (by simp only; omega) (by simp only; omega))
    rw [← HRE.out] at HBL
    clear HRE HRB
    have HWH := Lib.hid HQ.out.whole
    obtain ⟨AQ, hAQ⟩ : ∃ AQ, AQ = rowArr 51 (pkV ⟨set, 2, sl, fs, ss, 0, zFil, sm, id, dt⟩ sa sc da dc) := ⟨_, rfl⟩
    have hAQs : AQ.size = 51 := by rw [hAQ, rowArr_size]
    rw [← hAQ] at HBL HWH
    have HAS := Lib.hid hAQs
    clear hAQ hAQs HQ
    go_wp2_with (refine wpList_load_row rfl 100 _ rfl B rfl 100 AQ (0, 0) _ HWH.out Tryz.underlying100 rfl (by rw [HAS.out]; kernel_rfl) ?_)
    (with_reducible refine HBL.out.mono ?_)
    rintro e wz ⟨rfl, bz⟩
    have HBz : Hid (Below w.heap.size w wz) := HBq.out.trans (bz.mono HBq.out.size)
    clear bz HBL HBq
    go_wp2_with fail
    go_ret
    exact ⟨rfl, HBz.out⟩
  by_cases k3 : kd = 3
  · subst k3
    have c12 := HP.out.cell 12 (by omega)
    have f12 := HP.out.loose 12
    have c48 := HP.out.cell 48 (by omega)
    have f48 := HP.out.loose 48
    go_upto_region 13 with fail
    have HQ : Hid (Row ((w1.setCell ⟨B, 12, none⟩ (.int .i64 0)).setCell ⟨B, 48, none⟩ (.slice none 0 0)) B 100 51 51 (pkV ⟨set, 3, sl, fs, ss, 0, fl, [], id, dt⟩ none 0 da dc)) :=
      (HP.out.put (by omega) ⟨set, 3, sl, fs, ss, 0, fl, sm, id, dt⟩ sa sc da dc (pkV_index ⟨set, 3, sl, fs, ss, ix, fl, sm, id, dt⟩ sa sc da dc 0)).put (by omega) ⟨set, 3, sl, fs, ss, 0, fl, [], id, dt⟩ none 0 da dc (pkV_sums ⟨set, 3, sl, fs, ss, 0, fl, sm, id, dt⟩ sa sc da dc [] none 0)
    have HBq : Hid (Below w.heap.size w ((w1.setCell ⟨B, 12, none⟩ (.int .i64 0)).setCell ⟨B, 48, none⟩ (.slice none 0 0))) := (below_cellB (below_cellB HB.out (by simpa using HB.out.size) hwB _ _) (by simpa using HB.out.size) hwB _ _)
    generalize (w1.setCell ⟨B, 12, none⟩ (.int .i64 0)).setCell ⟨B, 48, none⟩ (.slice none 0 0) = w2 at *
    clear c8 c12 c48 f12 f48 HP HB
    have HRE : Hid (RB = decide (blankP ⟨set, 3, sl, fs, ss, 0, fl, [], id, dt⟩)) := by
      show _ = _
      rw [HRB.out]
      refine decide_eq_decide.2 ?_
      unfold plainP
      simp only
      simp
    have HBL := Lib.hid (blank_any ⟨set, 3, sl, fs, ss, 0, fl, [], id, dt⟩ none 0 da dc w2 HFO.out (by simp) (by simp only; omega))
    rw [← HRE.out] at HBL
    clear HRE HRB
    have HWH := Lib.hid HQ.out.whole
    obtain ⟨AQ, hAQ⟩ : ∃ AQ, AQ = rowArr 51 (pkV ⟨set, 3, sl, fs, ss, 0, fl, [], id, dt⟩ none 0 da dc) := ⟨_, rfl⟩
    have hAQs : AQ.size = 51 := by rw [hAQ, rowArr_size]
    rw [← hAQ] at HBL HWH
    have HAS := Lib.hid hAQs
    clear hAQ hAQs HQ
    go_wp2_with (refine wpList_load_row rfl 100 _ rfl B rfl 100 AQ (0, 0) _ HWH.out Tryz.underlying100 rfl (by rw [HAS.out]; kernel_rfl) ?_)
    (with_reducible refine HBL.out.mono ?_)
    rintro e wz ⟨rfl, bz⟩
    have HBz : Hid (Below w.heap.size w wz) := HBq.out.trans (bz.mono HBq.out.size)
    clear bz HBL HBq
    go_wp2_with fail
    go_ret
    exact ⟨rfl, HBz.out⟩
  by_cases k4 : kd = 4
  · subst k4
    have c50 : w1.cell? ⟨B, 50, none⟩ = some (.slice da dt.length dc) := HP.out.cell 50 (by omega)
    have f50 := HP.out.loose 50
    have c49 := HP.out.cell 49 (by omega)
    have f49 := HP.out.loose 49
    have HSY := Lib.hid (symbolic_any dt.length w1 hdl)
    by_cases g : 1 ≤ dt.length ∧ dt.length ≤ 256
    · rw [decide_eq_true g] at HSY
      have HG := Lib.hid g
      clear g
      go_wp2_with fail
      (with_reducible refine HSY.out.mono ?_)
      rintro e wz ⟨rfl, rfl⟩
      go_upto_region 13 with fail
      have HQ : Hid (Row ((w1.setCell ⟨B, 49, none⟩ (.int .u32 0)).setCell ⟨B, 50, none⟩ (.slice none 0 0)) B 100 51 51 (pkV ⟨set, 4, sl, fs, ss, ix, fl, sm, 0, []⟩ sa sc none 0)) :=
        (HP.out.put (by omega) ⟨set, 4, sl, fs, ss, ix, fl, sm, 0, dt⟩ sa sc da dc (pkV_id ⟨set, 4, sl, fs, ss, ix, fl, sm, id, dt⟩ sa sc da dc 0)).put (by omega) ⟨set, 4, sl, fs, ss, ix, fl, sm, 0, []⟩ sa sc none 0 (pkV_data ⟨set, 4, sl, fs, ss, ix, fl, sm, 0, dt⟩ sa sc da dc [] none 0)
      have HBq : Hid (Below w.heap.size w ((w1.setCell ⟨B, 49, none⟩ (.int .u32 0)).setCell ⟨B, 50, none⟩ (.slice none 0 0))) := (below_cellB (below_cellB HB.out (by simpa using HB.out.size) hwB _ _) (by simpa using HB.out.size) hwB _ _)
      clear HSY
      generalize (w1.setCell ⟨B, 49, none⟩ (.int .u32 0)).setCell ⟨B, 50, none⟩ (.slice none 0 0) = w2 at *
      clear c8 c49 c50 f49 f50 HP HB
      have HRE : Hid (RB = decide (blankP ⟨set, 4, sl, fs, ss, ix, fl, sm, 0, []⟩)) := by
        show _ = _
        rw [HRB.out]
        refine decide_eq_decide.2 ?_
        unfold plainP
        simp only
        have := HG.out; simp [this]
      have HBL := Lib.hid (blank_any ⟨set, 4, sl, fs, ss, ix, fl, sm, 0, []⟩ sa sc none 0 w2 HFO.out (by simp only; omega) (by simp))
      rw [← HRE.out] at HBL
      clear HRE HRB
      have HWH := Lib.hid HQ.out.whole
      obtain ⟨AQ, hAQ⟩ : ∃ AQ, AQ = rowArr 51 (pkV ⟨set, 4, sl, fs, ss, ix, fl, sm, 0, []⟩ sa sc none 0) := ⟨_, rfl⟩
      have hAQs : AQ.size = 51 := by rw [hAQ, rowArr_size]
      rw [← hAQ] at HBL HWH
      have HAS := Lib.hid hAQs
      clear hAQ hAQs HQ
      go_wp2_with (refine wpList_load_row rfl 100 _ rfl B rfl 100 AQ (0, 0) _ HWH.out Tryz.underlying100 rfl (by rw [HAS.out]; kernel_rfl) ?_)
      (with_reducible refine HBL.out.mono ?_)
      rintro e wz ⟨rfl, bz⟩
      have HBz : Hid (Below w.heap.size w wz) := HBq.out.trans (bz.mono HBq.out.size)
      clear bz HBL HBq
      go_wp2_with fail
      go_ret
      exact ⟨rfl, HBz.out⟩
    · rw [decide_eq_false g] at HSY
      have HR : Hid (RB = false) := by
        show _ = _
        rw [HRB.out]
        refine decide_eq_false ?_
        unfold plainP
        simp only
        intro h
        rcases h with h | h | h | h
        · exact absurd h.1 (by decide)
        · exact absurd h.1 (by decide)
        · exact absurd h.1 (by decide)
        · exact g h.2.1
      clear g HRB
      go_wp2_with fail
      (with_reducible refine HSY.out.mono ?_)
      rintro e wz ⟨rfl, rfl⟩
      go_wp2_with fail
      go_ret
      exact ⟨ret_bool HR.out.symm, HB.out⟩
  have HR : Hid (RB = false) := by
    show _ = _
    rw [HRB.out]
    refine decide_eq_false ?_
    unfold plainP
    simp only
    intro h
    rcases h with h | h | h | h
    · exact k1 h.1
    · exact k2 h.1
    · exact k3 h.1
    · exact k4 h.1
  have g1 : (kd == 1) = false := beq_eq_false_iff_ne.2 k1
  have g2 : (kd == 2) = false := beq_eq_false_iff_ne.2 k2
  have g3 : (kd == 3) = false := beq_eq_false_iff_ne.2 k3
  have g4 : (kd == 4) = false := beq_eq_false_iff_ne.2 k4
  clear HRB k1 k2 k3 k4
  go_wp2_with fail
  go_ret
  exact ⟨ret_bool HR.out.symm, HB.out⟩
end Go.Proofs.YtfgaohilpbocbaaGreatDoor
end

section
namespace Go.Proofs.YtfgaohilpbocbaaGreatDoor
open Go.Shelf Go.Proofs
def lay_joinB_ren : Go.Shelf.Ren := ⟨fun | 14 => 181 | 15 => 205 | n => n, fun | 26 => 31 | 22 => 53 | 3 => 3 | 4 => 4 | 0 => 0 | 9 => 9 | 20 => 20 | 5 => 5 | n => n, fun | n => n⟩
theorem lay_joinB : Go.Proofs.SlLaysJ.n14 Tryz.prog lay_joinB_ren := {
  mixed := by kernel_rfl
  f14 := Tryz.func181.trans (congrArg some (by kernel_rfl))
  f15 := Tryz.func205.trans (congrArg some (by kernel_rfl))
  t0 := Tryz.underlying0
  a0 := Tryz.isAgg0
  z0 := Tryz.sizeOf0
  v0 := Tryz.zeroValue0
  t3 := Tryz.underlying3
  a3 := Tryz.isAgg3
  z3 := Tryz.sizeOf3
  v3 := Tryz.zeroValue3
  t4 := Tryz.underlying4
  a4 := Tryz.isAgg4
  z4 := Tryz.sizeOf4
  v4 := Tryz.zeroValue4
  t9 := Tryz.underlying9
  a9 := Tryz.isAgg9
  z9 := Tryz.sizeOf9
  v9 := Tryz.zeroValue9
  t20 := Tryz.underlying20
  a20 := Tryz.isAgg20
  z20 := Tryz.sizeOf20
  v20 := Tryz.zeroValue20
  t22 := Tryz.underlying53
  a22 := Tryz.isAgg53
  z22 := Tryz.sizeOf53
  v22 := Tryz.zeroValue53
  t26 := Tryz.underlying31
  a26 := Tryz.isAgg31
  z26 := Tryz.sizeOf31
  v26 := Tryz.zeroValue31
  t5 := Tryz.underlying5
  z5 := Tryz.sizeOf5
  i5 := by kernel_rfl }
end Go.Proofs.YtfgaohilpbocbaaGreatDoor
end
