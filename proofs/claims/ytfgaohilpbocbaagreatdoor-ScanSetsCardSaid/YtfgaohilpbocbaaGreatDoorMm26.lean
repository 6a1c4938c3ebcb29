/-
  ScanSets, walked out of the contracts.
  Rows of bytes that came in; a string of bytes in any world that comes out of one by making memory.
  What the listed tables of package sum give, where start and rounds alone are listed; the heap of the door's own run meets the condition.
  The CRC of bytes: package sum's and the document's, in the words of the other texts.
  What the listed variables give the walks of scan's laws; rows that are handed in; the laid heap meets the condition.
-/
import Derived.Test.YtfgaohilpbocbaaGreatDoorMm25
import Derived.BigQuiet
import Derived.Deep.Matrix
import Derived.Test.YtfgaohilpbocbaaGreatDoorTie
import Derived.Test.YtfgaohilpbocbaaGreatDoorCards
import Derived.SevenTiedAt
import Derived.LaidMore
import Derived.Stop.Joined
import Derived.SizedLaws
import Derived.ChangeOld
import Derived.Lib.SlBytesConst
import Derived.LaidLaws
import Derived.Stop.LaidErr
import Derived.Lay
import Derived.Lib.LaidTab
section
namespace Go.Proofs.YtfgaohilpbocbaaGreatDoor
open Go.ChangeShapes Go.WideShapes Go.ChangeAt Go.RowKit Go.Joins
set_option linter.unusedVariables false

def lastN (T : List Sw) : Nat → List Nat
  | 0 => z8
  | k + 1 => match T[k]? with
    | some x => nameS x.S
    | none => z8
theorem z8_len : z8.length = 8 := rfl
theorem z8_byte : IsByte z8 := fun x hx => by simp [z8] at hx; omega
theorem lastN_len (T : List Sw) (k : Nat) : (lastN T k).length = 8 := by
  cases k with
  | zero => rfl
  | succ k =>
    show (match T[k]? with | some x => nameS x.S | none => z8).length = 8
    split
    · exact nameOf_len _
    · rfl
theorem lastN_byte (T : List Sw) (k : Nat) : IsByte (lastN T k) := by
  cases k with
  | zero => exact z8_byte
  | succ k =>
    show IsByte (match T[k]? with | some x => nameS x.S | none => z8)
    split
    · exact nameOf_byte _
    · exact z8_byte
theorem lastN_next {T : List Sw} {k : Nat} (h : k < T.length) : lastN T (k + 1) = nameS T[k].S := by
  show (match T[k]? with | some x => nameS x.S | none => z8) = _
  rw [List.getElem?_eq_getElem h]
/-- A name of eight bytes in a block. -/
def Nm8 (w : World) (g : Nat) (l : List Nat) : Prop := w.heap[g]? = some (.cells (rowArr 8 (vOf l)) 64 (0, 0))
theorem Nm8.below {w w' : World} {g : Nat} {l : List Nat} (h : Nm8 w g l) (k : Below w.heap.size w w') : Nm8 w' g l := (k.block g (Array.getElem?_eq_some_iff.1 h).1).trans h
theorem Nm8.sl {w : World} {g : Nat} {l : List Nat} (h : Nm8 w g l) (h8 : l.length = 8) (hb : IsByte l) : Sl w (some ⟨g, 0, none⟩) 8 l := by
  refine ⟨hb, by omega, by unfold maxLen; omega, fun e => (by cases e), .inr ⟨g, 0, rfl, fun i hi => ?_⟩⟩
  rw [cell_of_block h, Nat.zero_add]
  have hi8 : i < 8 := by omega
  simp [rowArr, hi8]
  exact vOf_eq l i hi

def stV (na : Option Addr) (nn nc : Nat) (ba : Option Addr) (bn bc : Nat) (j : Nat) : Value := if j = 0 then .slice na nn nc else .slice ba bn bc
theorem setArr_one18 (S : St) (fa : Option Addr) (fc : Nat) (sa : Option Addr) (sc : Nat) : (rowArr 3 (setV S fa fc sa sc)).all (·.oneCell') = true := by
  simp [rowArr, List.range_succ, setV, Value.oneCell']
theorem Gets.formed {F : List Pw} {name : List Nat} {S : St} (h : Gets F name S) : FormedP S := by
  obtain ⟨M, m0, f0, _, _, _, _, _, h, _⟩ := h
  exact h

set_option maxRecDepth 1000000 in
set_option maxHeartbeats 32000000 in
theorem scanSets_walk (hLN : LoadNilC) (hKN : LookNilC) (hP : PacketsC) (hS : SetsC) (na : Option Addr) (nc : Nat) (N : List (List Nat)) (ba : Option Addr) (bc : Nat) (R : Rws) (w : World) (hN : Strs w na nc N) (hR : Rs w.heap.size w ba bc R) (hlen : ∀ x ∈ R, x.length ≤ 140737488355328) (hm : Mx w) (ht : Tabs w) :
    Calls Tryz.prog 4 #[storeV na N.length nc ba R.length bc] w (TrueAnd w) := by
  have mixed : Tryz.prog.follows .mixedOrders = true := by kernel_rfl
  obtain ⟨PQ, hPQ⟩ : ∃ PQ, PQ = TrueAnd w := ⟨_, rfl⟩
  have HPQ : Hid (∀ w', Below w.heap.size w w' → PQ (.returned (.bool true)) w') := fun w' h => by rw [hPQ]; exact ⟨rfl, h⟩
  rw [← hPQ]
  have hnl := hN.lt
  have hrl := hR.lt
  have hX : StBox (w.alloc (.cells (storeA na N.length nc ba R.length bc) 34)) w.heap.size na N.length nc ba R.length bc := ⟨heap_alloc_last w _⟩
  have hb0 : Below w.heap.size w (w.alloc (.cells (storeA na N.length nc ba R.length bc) 34)) := (Below.refl _ _).alloc (Nat.le_refl _) _
  have HX := Lib.hid hX
  have HB := Lib.hid hb0
  have HAW : Hid (∀ w', Below w.heap.size w w' → Calls Tryz.prog 6 #[] w' (TrueAnd w')) := fun w' h => awake18_any hLN hKN w' (hm.below h) (ht.below h)
  have HRS : Hid (∀ w', Below w.heap.size w w' → Rs w'.heap.size w' ba bc R) := fun w' h => (hR.keep (Nat.le_refl _) (Keep.of_below h)).raise h.size
  have HFW : Hid (∀ w', Below w.heap.size w w' → Calls Tryz.prog 10 #[storeV na N.length nc ba R.length bc] w' fun e w'' => ∃ r : Bool, (e = .returned (.bool r) ∧ Below w'.heap.size w' w'') ∧ (r = true ↔ FewP N R)) := fun w' h => few18_any na nc N ba bc R w' (hN.below h) (HRS.out w' h) hlen
  have HST : Hid (∀ w', Below w.heap.size w w' → FewP N R → Calls Tryz.prog 15 #[storeV na N.length nc ba R.length bc] w' (SetsPost R w')) := fun w' h hf => hS na nc N ba bc R w' (hN.below h) (HRS.out w' h) hf.1 hf.2.1 (hm.below h) (ht.below h)
  have HPK : Hid (∀ w', Below w.heap.size w w' → FewP N R → Calls Tryz.prog 16 #[storeV na N.length nc ba R.length bc] w' (PacketsPost R w')) := fun w' h hf => hP na nc N ba bc R w' (hN.below h) (HRS.out w' h) hf.1 hf.2.1 (ht.below h)
  have HMX := Lib.hid hm
  have HTB := Lib.hid ht
  have HRB := Lib.hid hR.byte
  obtain ⟨sv, hsv⟩ : ∃ sv, sv = storeV na N.length nc ba R.length bc := ⟨_, rfl⟩
  obtain ⟨arr, harr⟩ : ∃ arr, arr = storeA na N.length nc ba R.length bc := ⟨_, rfl⟩
  have hsa : sv = .agg arr := by rw [hsv, harr]; rfl
  rw [← hsv] at HFW HST HPK ⊢
  rw [hsa] at HFW HST HPK ⊢
  have HAE := Lib.hid harr
  have HAR : Hid (arr.size = 2) := by show _ = _; rw [harr, storeA_size]
  rw [← harr] at HX HB
  clear hN hR hlen hX hb0 hPQ hLN hKN hP hS hm ht hsv hsa harr
  go_enter Tryz.func4, Tryz.ntmps4
  go_upto_region 1 with fail
  obtain ⟨b, hb⟩ : ∃ b, b = w.heap.size := ⟨_, rfl⟩
  rw [← hb] at HX ⊢
  generalize w.alloc (.cells arr 34) = w1 at *
  clear hb
  have HBLK : Hid (∀ w', Below w1.heap.size w1 w' → w'.heap[b]? = some (.cells arr 34 (0, 0))) := fun w' h => by rw [HAE.out]; exact (HX.out.below h).blk
  have VST : Hid (rowArr 2 (stV na N.length nc ba R.length bc) = arr) := HAE.out.symm
  have HCB : Hid (∀ w', Below w1.heap.size w1 w' → ∀ j, j < 2 → w'.cell? ⟨b, 0 + j, none⟩ = some (stV na N.length nc ba R.length bc j)) := fun w' h j hj => by
    rw [cell_of_block (HBLK.out w' h), ← VST.out, Nat.zero_add]
    simp [rowArr, hj]
  by_cases hf : FewP N R
  case neg =>
    have HNF := Lib.hid hf
    clear hf HST HPK
    go_upto_region 2 with (first
      | (go_at_call 6; (with_reducible refine (HAW.out _ HB.out).mono ?_); rintro e w2 ⟨rfl, b2⟩; have HB2 := Lib.hid b2; clear b2; have HFW2 := Lib.hid (HFW.out w2 (HB.out.trans (HB2.out.mono HB.out.size))))
      | (refine wpList_load_v (by rfl) 34 _ rfl b 0 2 (stV na N.length nc ba R.length bc) arr VST.out rfl _ (HCB.out _ HB2.out) Tryz.underlying34 rfl (by kernel_rfl) ?_)
      | (go_at_call 10; (with_reducible refine HFW2.out.mono ?_); rintro e w3 ⟨r, ⟨rfl, b3⟩, hr⟩; obtain rfl : r = false := Bool.eq_false_iff.2 fun h => HNF.out (hr.1 h); have HB3 := Lib.hid (HB2.out.trans (b3.mono HB2.out.size)); clear b3 hr HFW2))
    go_wp2_with (go_at_call 6; (with_reducible refine (HAW.out _ (HB.out.trans (HB3.out.mono HB.out.size))).mono ?_); rintro e w4 ⟨rfl, b4⟩; have HB4 := Lib.hid (HB3.out.trans (b4.mono HB3.out.size)); clear b4)
    exact HPQ.out _ (HB.out.trans (HB4.out.mono HB.out.size))
  have HFP := Lib.hid hf
  go_upto_region 3 with (first
    | (go_at_call 6; (with_reducible refine (HAW.out _ HB.out).mono ?_); rintro e w2 ⟨rfl, b2⟩; have HB2 := Lib.hid b2; clear b2; have HFW2 := Lib.hid (HFW.out w2 (HB.out.trans (HB2.out.mono HB.out.size))))
    | (refine wpList_load_v (by rfl) 34 _ rfl b 0 2 (stV na N.length nc ba R.length bc) arr VST.out rfl _ (HCB.out _ HB2.out) Tryz.underlying34 rfl (by kernel_rfl) ?_)
    | (go_at_call 10; (with_reducible refine HFW2.out.mono ?_); rintro e w3 ⟨r, ⟨rfl, b3⟩, hr⟩; obtain rfl : r = true := hr.2 HFP.out; have HB3 := Lib.hid (HB2.out.trans (b3.mono HB2.out.size)); clear b3 hr HFW2))
  have HST3 := Lib.hid (HST.out w3 (HB.out.trans (HB3.out.mono HB.out.size)) hf)
  clear HST
  go_upto_region 4 with (first
    | (refine wpList_load_v (by rfl) 34 _ rfl b 0 2 (stV na N.length nc ba R.length bc) arr VST.out rfl _ (HCB.out _ HB3.out) Tryz.underlying34 rfl (by kernel_rfl) ?_)
    | (go_at_call 15; (with_reducible refine HST3.out.mono ?_); rintro e w4 ⟨b4, ta, tc, T, rfl, hsl, hgt, htl, hri⟩; have HB34 := Lib.hid b4; have HB4 := Lib.hid (HB3.out.trans (b4.mono HB3.out.size)); have HSL := Lib.hid hsl; have HGT := Lib.hid hgt; have HTL := Lib.hid htl; have HRI := Lib.hid hri; clear b4 hsl hgt htl hri HST3))
  have HPK4 := Lib.hid (HPK.out w4 (HB.out.trans (HB4.out.mono HB.out.size)) hf)
  clear HPK
  go_upto_region 5 with (first
    | (refine wpList_load_v (by rfl) 34 _ rfl b 0 2 (stV na N.length nc ba R.length bc) arr VST.out rfl _ (HCB.out _ HB4.out) Tryz.underlying34 rfl (by kernel_rfl) ?_)
    | (go_at_call 16; (with_reducible refine HPK4.out.mono ?_); rintro e w5 ⟨v5, F, rfl, hp5, ha5⟩; have HP := Lib.hid hp5; have HAF := Lib.hid ha5; clear hp5 ha5 HPK4))
  obtain ⟨pa, pc, hv5, _, _⟩ := HP.out.own.slice
  subst hv5
  have HB5 : Hid (Below w1.heap.size w1 w5) := HB4.out.trans (HP.out.below.mono HB4.out.size)
  have HBW5 : Hid (Below w.heap.size w w5) := HB.out.trans (HB5.out.mono HB.out.size)
  have hroom := HAF.out.room HRB.out
  rw [List.length_map] at hroom
  have hf20 := hf.2.1
  have hFl : F.length ≤ 500 := by omega
  have hflt : F.length ≤ 9223372036854775807 := by omega
  have HFL := Lib.hid hFl
  have HSM : Hid (∀ nm : List Nat, ∀ f ∈ F, f.p.set = nm → f.p.sums.length ≤ 600) := fun nm f hfm _ => by
    have := (hroom.2 f.p (List.mem_map_of_mem hfm)).2.2
    omega
  have HTOT : Hid (totN R ≤ 20000) := hf20
  have hTl := HTL.out
  clear hroom hf20 hFl hf
  have c1 : w5.cell? ⟨b, 1, none⟩ = some (.slice ba R.length bc) := by have h1 := HBLK.out _ HB5.out; rw [HAE.out] at h1; rw [cell_of_block h1]; rfl
  have HA0 : Hid (∃ P, AllFound (R.take 0) P ∧ P.length = 0) := ⟨[], .nil, rfl⟩
  have HB50 : Hid (Below w5.heap.size w5 w5) := Below.refl _ _
  go_wp2_with fail
  clear c1
  go_loopw [5, 27] (fun n i wr => ∃ k M : Nat, k ≤ R.length ∧ i = .int .i64 k ∧ n = .int .i64 M ∧ M ≤ 20000 ∧ Hid (∃ P, AllFound (R.take k) P ∧ P.length = M) ∧ Hid (Below w5.heap.size w5 wr)) (fun _ i _ => R.length - (intOf i).toNat)
  case atStart => exact ⟨0, 0, by omega, rfl, rfl, by omega, HA0, HB50⟩
  case round =>
    obtain ⟨k, M, hk, rfl, rfl, hM, HA, HBr⟩ := hrel
    clear HA0 HB50
    have HB1r : Hid (Below w1.heap.size w1 wr) := HB5.out.trans (HBr.out.mono HB5.out.size)
    have HBWr : Hid (Below w.heap.size w wr) := HB.out.trans (HB1r.out.mono HB.out.size)
    by_cases hlt : k < R.length
    · have c1 : wr.cell? ⟨b, 1, none⟩ = some (.slice ba R.length bc) := by have h1 := HBLK.out _ HB1r.out; rw [HAE.out] at h1; rw [cell_of_block h1]; rfl
      obtain ⟨rg, off, rfl, hbl, hrr⟩ := (HRS.out wr HBWr.out).some hlt
      obtain ⟨ai, ci, hck, hrw⟩ := hrr k hlt
      have hle : R[k].length ≤ 20000 := by
        have h1 := totN_next hlt
        have h2 := totN_take R (k + 1)
        have h3 := HTOT.out
        omega
      have hfd := find_any ai ci R[k] wr hrw.sl (by omega) (HTB.out.below HBWr.out)
      have HNX : Hid (∀ fs, Finds R[k] 0 fs → ∃ P, AllFound (R.take (k + 1)) P ∧ P.length = M + fs.length) := fun fs hfs => by
        obtain ⟨P, h1, h2⟩ := HA.out
        rw [List.take_succ_eq_append_getElem hlt]
        exact ⟨_, .snoc h1 hfs, by rw [List.length_append, List.length_map, h2]⟩
      have HTK : Hid (∀ P, AllFound (R.take (k + 1)) P → P.length ≤ 500) := fun P h => by
        have h1 := (h.room fun x hx => HRB.out x (List.mem_of_mem_take hx)).1
        have h2 := totN_take R (k + 1)
        have h3 := HTOT.out
        omega
      obtain ⟨m, hm⟩ : ∃ m, m = R[k].length := ⟨_, rfl⟩
      rw [← hm] at hck hfd hle
      have HFD := Lib.hid hfd
      have i1 : (0 : Int) ≤ (k : Int) := by omega
      have i2 : (k : Int) < (R.length : Int) := by omega
      clear hrr hrw hm hfd HA
      go_upto_region 10 with (go_at_call 17; (with_reducible refine HFD.out.mono ?_); rintro e w6 ⟨v6, F6, rfl, hf6, hd6, _⟩; obtain ⟨fa, fc, hv6, _, _⟩ := hf6.own.slice; subst hv6; have HB6 := Lib.hid hf6.below; have HA6 := Lib.hid (HNX.out _ hd6); have hFl6 : F6.length ≤ 500 := (by obtain ⟨P, h1, h2⟩ := HA6.out; have := HTK.out P h1; rw [List.length_map] at h2; omega); have HL6 : Hid ((F6.map Fnd.pair).length = F6.length) := List.length_map ..; clear hf6 hd6 HFD HNX)
      rw [HL6.out] at HA6
      have hM2 : M + F6.length ≤ 20000 := by obtain ⟨P, h1, h2⟩ := HA6.out; have := HTK.out P h1; omega
      have HBr6 : Hid (Below w5.heap.size w5 w6) := HBr.out.trans (HB6.out.mono HBr.out.size)
      go_wp2_with fail
      go_roundw
      case rel => exact ⟨k + 1, M + F6.length, by omega, by go_num, by go_num, by omega, HA6, HBr6⟩
      case measure => simp [intOf]; omega
    · obtain rfl : k = R.length := by omega
      have hMF : F.length = M := by
        obtain ⟨P, h1, h2⟩ := HA.out
        rw [List.take_length] at h1
        have h3 := h1.one HAF.out
        rw [← h2, h3, List.length_map]
      obtain rfl := hMF
      clear HA
      go_upto_region 14 with fail
      change Code.wp _ _ _ _ (wr.alloc (.cells z8A 64))
      have HL7 : Hid (Nm8 (wr.alloc (.cells z8A 64)) wr.heap.size (lastN T 0)) := heap_alloc_last wr _
      have HB57 : Hid (Below w5.heap.size w5 (wr.alloc (.cells z8A 64))) := HBr.out.alloc HBr.out.size _
      obtain ⟨g7, hg7⟩ : ∃ g7, g7 = wr.heap.size := ⟨_, rfl⟩
      have hg75 : w5.heap.size ≤ g7 := by have := HBr.out.size; omega
      rw [← hg7] at HL7 ⊢
      generalize wr.alloc (.cells z8A 64) = w7 at *
      clear hg7 HB1r HBWr HBr
      have HSL5 := Lib.hid (HSL.out.below HP.out.below)
      have htl := HSL5.out.lt
      go_wp2_with fail
      go_loopw [46] (fun i wr => ∃ k : Nat, k ≤ T.length ∧ i = .int .i64 k ∧ Hid (Nm8 wr g7 (lastN T k)) ∧ Hid (Below w5.heap.size w5 wr)) (fun i _ => T.length - (intOf i).toNat)
      case atStart => exact ⟨0, by omega, rfl, HL7, HB57⟩
      case round =>
        obtain ⟨k, hk, rfl, HLA, HBr⟩ := hrel
        clear HL7 HB57
        have HBr1 : Hid (Below w1.heap.size w1 wr) := HB5.out.trans (HBr.out.mono HB5.out.size)
        have HBrW : Hid (Below w.heap.size w wr) := HB.out.trans (HBr1.out.mono HB.out.size)
        by_cases hlt : k < T.length
        · obtain ⟨sb, so, rfl, hsb, hx⟩ := sets_one (HSL5.out.below HBr.out) hlt
          have hst := ((HSL5.out.below HBr.out).sets _ (List.getElem_mem hlt)).1
          have hgt := HGT.out F HAF.out _ (List.getElem_mem hlt)
          have HLT : Hid (0 < k → ltN (lastN T k) (nameS T[k].S) = true) := fun h => by
            obtain ⟨j, rfl⟩ : ∃ j, k = j + 1 := ⟨k - 1, by omega⟩
            rw [lastN_next (by omega)]
            exact HRI.out j hlt
          have HLN : Hid (lastN T (k + 1) = nameS T[k].S) := lastN_next hlt
          obtain ⟨x, hxe⟩ : ∃ x, x = T[k] := ⟨_, rfl⟩
          rw [← hxe] at hx hst hgt HLT HLN
          obtain ⟨SX, hSX⟩ : ∃ SX, SX = rowArr 3 (swV x) := ⟨_, rfl⟩
          have VX : Hid (rowArr 3 (swV x) = SX) := hSX.symm
          have VX2 : Hid (rowArr 3 (setV x.S x.fa x.fc x.sa x.sc) = SX) := hSX.symm
          have HXC : Hid (∀ m, m < 3 → wr.cell? ⟨sb, so + k * 3 + m, none⟩ = some (swV x m)) := hx
          have hnm := refName14_any x.S x.fa x.fc x.sa x.sc wr hst hgt.formed
          obtain ⟨QA, hQA⟩ : ∃ QA, QA = rowArr 8 (vOf (nameS x.S)) := ⟨_, rfl⟩
          have VQ : Hid (rowArr 8 (vOf (nameS x.S)) = QA) := hQA.symm
          have HQs : Hid (QA.size = 8) := by show _ = _; rw [hQA, rowArr_size]
          have HQ1 : Hid (QA.all (·.oneCell') = true) := by show _ = _; rw [hQA]; exact oneCell_v _ 8
          rw [VX2.out, VQ.out] at hnm
          have HNM := Lib.hid hnm
          have HSTX := Lib.hid hst
          have HGX := Lib.hid hgt
          have i1 : (0 : Int) ≤ (k : Int) := by omega
          have i2 : (k : Int) < (T.length : Int) := by omega
          clear hx hst hgt hSX hnm hQA hxe
          go_upto_region 18 with (first
            | (refine wpList_load_v (by rfl) 30 _ rfl sb (so + k * 3) 3 _ SX VX.out rfl _ HXC.out Tryz.underlying30 rfl (by kernel_rfl) ?_)
            | (go_at_call 18; (with_reducible refine HNM.out.mono ?_); rintro e wn ⟨rfl, bn⟩; have HBn := Lib.hid bn; clear bn HNM; have HALL : Hid (∀ c : Array Value, (wn.alloc (.cells c 64)).heap[wn.heap.size]? = some (.cells c 64 (0, 0))) := (fun c => heap_alloc_last wn _); have HALB : Hid (∀ c : Array Value, Below wn.heap.size wn (wn.alloc (.cells c 64))) := (fun c => (Below.refl _ _).alloc (Nat.le_refl _) _))
            | (refine wpList_store_arr rfl 64 _ _ rfl wn.heap.size QA rfl rfl 64 _ (HALL.out _) (by rw [HQs.out]; kernel_rfl) (by rw [HQs.out]; rfl) HQ1.out ?_; intro wm HCm hfm; have HBnm : Hid (Below wn.heap.size wn wm) := (HALB.out _).trans (hfm.out.below (HALB.out _).size (fun k hk e => by omega)); clear hfm HALL HALB))
          obtain ⟨gq, hgq⟩ : ∃ gq, gq = wn.heap.size := ⟨_, rfl⟩
          have hgqm : wr.heap.size ≤ gq := by have := HBn.out.size; omega
          rw [← hgq] at HCm ⊢
          have HBm : Hid (Below wr.heap.size wr wm) := HBn.out.trans (HBnm.out.mono HBn.out.size)
          have HBmW : Hid (Below w.heap.size w wm) := HBrW.out.trans (HBm.out.mono HBrW.out.size)
          have HB5m : Hid (Below w5.heap.size w5 wm) := HBr.out.trans (HBm.out.mono HBr.out.size)
          have hjn := join14_any pa pc F (nameS x.S) wm (HP.out.sl.below HB5m.out) (nameOf_len _) (nameOf_byte _) HFL.out (HSM.out _) (HMX.out.below HBmW.out) (HTB.out.below HBmW.out)
          rw [VQ.out] at hjn
          have HJN : Hid (Calls Tryz.prog 19 #[.slice pa F.length pc, .agg QA] wm fun e w' => Below wm.heap.size wm w' ∧ ∃ fa fc sa sc, e = .returned (.tuple #[.agg (rowArr 3 (setV x.S fa fc sa sc)), .int .i64 0]) ∧ SetAt w' x.S fa fc sa sc ∧ (sa = none → sc = 0)) := hjn.mono fun e w' h => HGX.out.join rfl h
          clear hjn hgq HBn HBnm
          go_upto_region 19 with (first
            | (refine wpList_load_row rfl 64 _ rfl gq rfl 64 QA (0, 0) _ HCm.out Tryz.underlying64 rfl (by rw [HQs.out]; kernel_rfl) ?_)
            | (go_at_call 19; (with_reducible refine HJN.out.mono ?_); rintro e wj ⟨bj, ga, gc, ta, tc, rfl, htj, _⟩; have HBj := Lib.hid bj; have HTj := Lib.hid htj; obtain ⟨XA, hXA⟩ : ∃ XA, XA = rowArr 3 (setV x.S ga gc ta tc) := ⟨_, rfl⟩; have VXA : Hid (rowArr 3 (setV x.S ga gc ta tc) = XA) := hXA.symm; have HXs : Hid (XA.size = 3) := (by show _ = _; rw [hXA, rowArr_size]); have HX1 : Hid (XA.all (·.oneCell') = true) := (by show _ = _; rw [hXA]; exact setArr_one18 _ _ _ _ _); rw [← hXA]; clear hXA bj htj HJN; have HALL : Hid (∀ c : Array Value, (wj.alloc (.cells c 30)).heap[wj.heap.size]? = some (.cells c 30 (0, 0))) := (fun c => heap_alloc_last wj _); have HALB : Hid (∀ c : Array Value, Below wj.heap.size wj (wj.alloc (.cells c 30))) := (fun c => (Below.refl _ _).alloc (Nat.le_refl _) _))
            | (refine wpList_store_arr rfl 30 _ _ rfl wj.heap.size XA rfl rfl 30 _ (HALL.out _) (by rw [HXs.out]; kernel_rfl) (by rw [HXs.out]; rfl) HX1.out ?_; intro wk HCk hfk; have HBjk : Hid (Below wj.heap.size wj wk) := (HALB.out _).trans (hfk.out.below (HALB.out _).size (fun k hk e => by omega)); clear hfk HALL HALB))
          obtain ⟨gs, hgs⟩ : ∃ gs, gs = wj.heap.size := ⟨_, rfl⟩
          rw [← hgs] at HCk ⊢
          have HTk := Lib.hid (HTj.out.below HBjk.out)
          have HBmk : Hid (Below wm.heap.size wm wk) := HBj.out.trans (HBjk.out.mono HBj.out.size)
          have HBk : Hid (Below wr.heap.size wr wk) := HBm.out.trans (HBmk.out.mono HBm.out.size)
          have HBkW : Hid (Below w.heap.size w wk) := HBrW.out.trans (HBk.out.mono HBrW.out.size)
          have HSTk := Lib.hid (HSTX.out.below HBk.out)
          have HLAk : Hid (Nm8 wk g7 (lastN T k)) := HLA.out.below HBk.out
          have HNQk : Hid (Nm8 wk gq (nameS x.S)) := by
            show Nm8 _ _ _
            have h1 : wm.heap[gq]? = some (.cells QA 64 (0, 0)) := HCm.out
            rw [← VQ.out] at h1
            exact Nm8.below h1 HBmk.out
          have HXCk : Hid (∀ m, m < 3 → wk.cell? ⟨sb, so + k * 3 + m, none⟩ = some (swV x m)) := fun m hm => (HBk.out.cell (p := ⟨sb, so + k * 3 + m, none⟩) hsb).trans (HXC.out m hm)
          have hgsl : gs < wk.heap.size := (Array.getElem?_eq_some_iff.1 HCk.out).1
          have hsbk : sb < wk.heap.size := Nat.lt_of_lt_of_le hsb HBk.out.size
          have KX : Hid (∀ d os m, m < 3 → (Go.Sort.grow (redrawn wk d) os).cell? ⟨sb, so + k * 3 + m, none⟩ = some (swV x m)) := fun d os m hm => ((below_regrown wk d os).cell (p := ⟨sb, so + k * 3 + m, none⟩) hsbk).trans (HXCk.out m hm)
          have KS : Hid (∀ d os m, m < 3 → (Go.Sort.grow (redrawn wk d) os).cell? ⟨gs, 0 + m, none⟩ = some (setV x.S ga gc ta tc m)) := fun d os m hm => by
            have h1 := HCk.out
            rw [← VXA.out] at h1
            rw [(below_regrown wk d os).cell (p := ⟨gs, 0 + m, none⟩) hgsl, cell_of_block h1, Nat.zero_add]
            simp [rowArr, hm]
          have CN1 := fun d os => Calls.regrown_of (v := .bool true) ((refFormed_any x.S x.fa x.fc x.sa x.sc (Go.Sort.grow (redrawn wk d) os) (HSTk.out.below (below_regrown wk d os))).mono fun e w' ⟨⟨r, he, hr⟩, hb⟩ => ⟨by rw [he, hr.2 HGX.out.formed], hb⟩)
          have CN2 := fun d os => Calls.regrown_of (v := .bool true) ((sameSet_any x.S ga gc ta tc x.fa x.fc x.sa x.sc (Go.Sort.grow (redrawn wk d) os) (HTk.out.below (below_regrown wk d os)) (HSTk.out.below (below_regrown wk d os))).mono fun e w' h => h)
          rw [VX2.out] at CN1 CN2
          rw [VXA.out] at CN2
          have cv1 : ∀ d os, (convert 53 9 (.slice (some ⟨g7, 0, none⟩) 8 8)).run Tryz.prog (Go.Sort.grow (redrawn wk d) os) = .ok (.string (strOf (lastN T k))) (Go.Sort.grow (redrawn wk d) os) := fun d os => by
            have h1 := conv_sl _ _ 8 (lastN T k) ((HLAk.out.below (below_regrown wk d os)).sl (lastN_len T k) (lastN_byte T k))
            rw [lastN_len] at h1
            exact h1
          have cv2 : ∀ d os, (convert 53 9 (.slice (some ⟨gq, 0, none⟩) 8 8)).run Tryz.prog (Go.Sort.grow (redrawn wk d) os) = .ok (.string (strOf (nameS x.S))) (Go.Sort.grow (redrawn wk d) os) := fun d os => by
            have h1 := conv_sl _ _ 8 (nameS x.S) ((HNQk.out.below (below_regrown wk d os)).sl (nameOf_len _) (nameOf_byte _))
            rw [show (nameS x.S).length = 8 from nameOf_len _] at h1
            exact h1
          clear hgs HBj HBjk HTj HBm HBmW HB5m HCm HSTX HXC HXCk hsb hgsl hsbk HCk HTk HSTk
          by_cases hk0 : 0 < k
          · have d0 : decide ((0 : Int) < (k : Int)) = true := decide_eq_true (by omega)
            have d00 : decide (0 < k) = true := decide_eq_true hk0
            have dl : Op.bytesLess (strOf (lastN T k)).toList (strOf (nameS x.S)).toList = true := HLT.out hk0
            clear hk0
            refine wp_region_quiet_below mixed (by kernel_rfl) ?_
            repeat (first
              | (refine wpQuiet_load_v (by rfl) 30 _ rfl sb (so + k * 3) 3 _ SX VX.out rfl _ (fun w hw j hj => by obtain ⟨⟨d, os⟩, rfl⟩ := hw; exact KX.out d os j hj) Tryz.underlying30 rfl (by kernel_rfl) ?_)
              | (refine wpQuiet_load_v (by rfl) 30 _ rfl gs 0 3 _ XA VXA.out rfl _ (fun w hw j hj => by obtain ⟨⟨d, os⟩, rfl⟩ := hw; exact KS.out d os j hj) Tryz.underlying30 rfl (by kernel_rfl) ?_)
              | go_big_quiet_step (first | exact CN1 _ _ | exact CN2 _ _) | quiet_step (first | exact CN1 _ _ | exact CN2 _ _))
            refine wpQuiet_nil ?_
            intro _ hw'
            obtain ⟨⟨dq, osq⟩, hw''⟩ := hw'
            subst hw''
            have HBk8 := Lib.hid (below_regrown wk dq osq)
            clear CN1 CN2 cv1 cv2 KX KS
            generalize Go.Sort.grow (redrawn wk dq) osq = w8 at *
            have HL8 : Hid (w8.heap[g7]? = some (.cells (rowArr 8 (vOf (lastN T k))) 64 (0, 0))) := HLAk.out.below HBk8.out
            have HQ8 : Hid (w8.heap[gq]? = some (.cells QA 64 (0, 0))) := by
              have h1 : w8.heap[gq]? = some (.cells (rowArr 8 (vOf (nameS x.S))) 64 (0, 0)) := HNQk.out.below HBk8.out
              rw [VQ.out] at h1
              exact h1
            have HB8 : Hid (Below w5.heap.size w5 w8) := HBr.out.trans ((HBk.out.trans (HBk8.out.mono HBk.out.size)).mono HBr.out.size)
            go_wp2_with (first
              | (refine wpList_load_row rfl 64 _ rfl gq rfl 64 QA (0, 0) _ HQ8.out Tryz.underlying64 rfl (by rw [HQs.out]; kernel_rfl) ?_)
              | (refine wpList_store_arr rfl 64 _ _ rfl g7 QA rfl rfl 64 _ HL8.out (by rw [HQs.out]; kernel_rfl) (by rw [HQs.out, rowArr_size]) HQ1.out ?_; intro w9 HC9 hf9; have HB9 : Hid (Below w5.heap.size w5 w9) := HB8.out.trans (hf9.out.below HB8.out.size (fun k hk e => by omega)); clear hf9))
            have HL9 : Hid (Nm8 w9 g7 (lastN T (k + 1))) := by
              show _ = _
              rw [HLN.out, VQ.out]
              exact HC9.out
            go_roundw
            case rel => exact ⟨k + 1, by omega, by go_num, HL9, HB9⟩
            case measure => simp [intOf]; omega
          · have d0 : decide ((0 : Int) < (k : Int)) = false := decide_eq_false (by omega)
            have d00 : decide (0 < k) = false := decide_eq_false hk0
            clear hk0
            refine wp_region_quiet_below mixed (by kernel_rfl) ?_
            repeat (first
              | (refine wpQuiet_load_v (by rfl) 30 _ rfl sb (so + k * 3) 3 _ SX VX.out rfl _ (fun w hw j hj => by obtain ⟨⟨d, os⟩, rfl⟩ := hw; exact KX.out d os j hj) Tryz.underlying30 rfl (by kernel_rfl) ?_)
              | (refine wpQuiet_load_v (by rfl) 30 _ rfl gs 0 3 _ XA VXA.out rfl _ (fun w hw j hj => by obtain ⟨⟨d, os⟩, rfl⟩ := hw; exact KS.out d os j hj) Tryz.underlying30 rfl (by kernel_rfl) ?_)
              | go_big_quiet_step (first | exact CN1 _ _ | exact CN2 _ _) | quiet_step (first | exact CN1 _ _ | exact CN2 _ _))
            refine wpQuiet_nil ?_
            intro _ hw'
            obtain ⟨⟨dq, osq⟩, hw''⟩ := hw'
            subst hw''
            have HBk8 := Lib.hid (below_regrown wk dq osq)
            clear CN1 CN2 cv1 cv2 KX KS
            generalize Go.Sort.grow (redrawn wk dq) osq = w8 at *
            have HL8 : Hid (w8.heap[g7]? = some (.cells (rowArr 8 (vOf (lastN T k))) 64 (0, 0))) := HLAk.out.below HBk8.out
            have HQ8 : Hid (w8.heap[gq]? = some (.cells QA 64 (0, 0))) := by
              have h1 : w8.heap[gq]? = some (.cells (rowArr 8 (vOf (nameS x.S))) 64 (0, 0)) := HNQk.out.below HBk8.out
              rw [VQ.out] at h1
              exact h1
            have HB8 : Hid (Below w5.heap.size w5 w8) := HBr.out.trans ((HBk.out.trans (HBk8.out.mono HBk.out.size)).mono HBr.out.size)
            go_wp2_with (first
              | (refine wpList_load_row rfl 64 _ rfl gq rfl 64 QA (0, 0) _ HQ8.out Tryz.underlying64 rfl (by rw [HQs.out]; kernel_rfl) ?_)
              | (refine wpList_store_arr rfl 64 _ _ rfl g7 QA rfl rfl 64 _ HL8.out (by rw [HQs.out]; kernel_rfl) (by rw [HQs.out, rowArr_size]) HQ1.out ?_; intro w9 HC9 hf9; have HB9 : Hid (Below w5.heap.size w5 w9) := HB8.out.trans (hf9.out.below HB8.out.size (fun k hk e => by omega)); clear hf9))
            have HL9 : Hid (Nm8 w9 g7 (lastN T (k + 1))) := by
              show _ = _
              rw [HLN.out, VQ.out]
              exact HC9.out
            go_roundw
            case rel => exact ⟨k + 1, by omega, by go_num, HL9, HB9⟩
            case measure => simp [intOf]; omega
        · obtain rfl : k = T.length := by omega
          have HQQ : Hid (PQ (.returned (.bool true)) wr) := HPQ.out _ HBrW.out
          go_wp2_with fail
          exact HQQ.out
end Go.Proofs.YtfgaohilpbocbaaGreatDoor
end

section
namespace Go.Proofs.YtfgaohilpbocbaaGreatDoor
open Go.ChangeShapes Go.WideShapes Go.ChangeAt Go.RowKit Go.Joins
set_option linter.unusedVariables false

/-- Rows that came in. -/
theorem rows_in {H : Type} {enc : TypeId × Value → H} {w : World} {base fuel : Nat} {held : Bool} {c : Value} {x : DataW H × List MemPlace}
    (h : DataW.trod enc Tryz.prog w base (fun _ => true) held fuel 31 [c] = some x) :
    ∃ (a : Option Addr) (cap : Nat) (ls : Rws), c = .slice a ls.length cap ∧ Rs w.heap.size w a cap ls := by
  rcases Go.Deep.open_int_rows Tryz.underlying31 Tryz.underlying53 Tryz.underlying5 (by kernel_rfl) (by kernel_rfl) h with ⟨hcs, _⟩ | ⟨a, len, cap, A, L, C, Z, hcs, _, hl, hm, _, hr⟩
  · simp only [List.cons.injEq, and_true] at hcs
    exact ⟨none, 0, [], hcs, nil_rs _ _⟩
  · simp only [List.cons.injEq, and_true] at hcs
    have hlen : ((List.range len).map fun r => ((Z r).take (L r)).map Int.toNat).length = len := by simp
    refine ⟨some a, cap, (List.range len).map fun r => ((Z r).take (L r)).map Int.toNat, by rw [hlen]; exact hcs, by rw [hlen]; exact hl, hm, fun e => (by cases e), ?_⟩
    by_cases h0 : len = 0
    · subst h0; exact .inl rfl
    · obtain ⟨b, off, spot⟩ := a
      have hc0 := (hr 0 (by omega)).1
      have hspot : spot = none := by simpa [Addr.add] using World.cell?_spot hc0
      subst hspot
      have hadd : ∀ r, (⟨b, off, none⟩ : Addr).add r = ⟨b, off + r, none⟩ := fun r => by
        by_cases r0 : r = 0
        · subst r0; simp [Addr.add]
        · simp [Addr.add, r0]
      refine .inr ⟨b, off, rfl, ?_, fun r hrl => ?_⟩
      · rw [hadd] at hc0; exact World.block_lt_of_cell? w _ hc0
      · rw [hlen] at hrl
        obtain ⟨h1, h2, h3, h4, h5, h6, h7⟩ := hr r (by omega)
        rw [hadd] at h1
        have hlr : (((List.range len).map fun r => ((Z r).take (L r)).map Int.toNat)[r]'(by rw [hlen]; exact hrl)) = ((Z r).take (L r)).map Int.toNat := by simp
        rw [hlr]
        have hll : (((Z r).take (L r)).map Int.toNat).length = L r := by simp; omega
        have hb255 : ∀ z ∈ Z r, 0 ≤ z ∧ z ≤ 255 := fun z hz => by
          have := h5 z hz
          simpa [Lit.wf, IntKind.min, IntKind.max, IntKind.signed, IntKind.bits] using this
        refine ⟨A r, C r, by rw [hll]; exact h1, Rw.of_sl ⟨fun n hn => ?_, by rw [hll]; exact h2, h3, fun e => ?_, ?_⟩⟩
        · obtain ⟨z, hz1, rfl⟩ := List.mem_map.1 hn
          have := hb255 z (List.mem_of_mem_take hz1)
          omega
        · have hC := h6 e
          exact ⟨List.length_eq_zero_iff.1 (by rw [hll]; omega), hC⟩
        · by_cases hL : L r = 0
          · exact .inl (List.length_eq_zero_iff.1 (by rw [hll]; exact hL))
          · cases hA : A r with
            | none => have := h6 hA; omega
            | some a' =>
              obtain ⟨b', off', spot'⟩ := a'
              have hcell := (h7 _ hA).2
              have hc0' := hcell 0 (by omega)
              have hspot' : spot' = none := by simpa [Addr.add] using World.cell?_spot hc0'
              subst hspot'
              refine .inr ⟨b', off', rfl, fun i hi => ?_⟩
              rw [hll] at hi
              have hci := hcell i (by omega)
              have e : (Z r).getD i 0 = (Z r)[i]'(by omega) := by simp [List.getD, show i < (Z r).length by omega]
              rw [e] at hci
              have hb := hb255 _ (List.getElem_mem (show i < (Z r).length by omega))
              have e2 : (((((Z r).take (L r)).map Int.toNat)[i]'(by rw [hll]; exact hi) : Nat) : Int) = (Z r)[i]'(by omega) := by simp; omega
              rw [e2, ← hci]
              by_cases hi0 : i = 0
              · subst hi0; simp [Addr.add]
              · simp [Addr.add, hi0]


theorem conv_class {w : World} {a : Option Addr} {n cap : Nat} {l : List Nat} (h : Sl w a cap l) (hn : l.length = n) : ∀ d os, (convert 53 9 (.slice a n cap)).run Tryz.prog (Sort.grow (redrawn w d) os) = .ok (.string (strOf l)) (Sort.grow (redrawn w d) os) := fun d os => by
  subst hn
  exact conv_sl _ a cap l (h.below (below_regrown w d os))

end Go.Proofs.YtfgaohilpbocbaaGreatDoor
end

section
namespace Go.Proofs.YtfgaohilpbocbaaGreatDoor
open Go.ChangeShapes Go.WideShapes Go.ChangeAt Go.RowKit
set_option linter.unusedVariables false

theorem ownD : ownKnob Tryz.prog.godebug = none := by kernel_rfl
theorem laidOutD : laidOutB Tryz.prog = true := by kernel_rfl
theorem cellsU32 : Tryz.prog.cellsOf 49 = 1 := by kernel_rfl
/-- An array of numbers of one cell each, opened: each cell holds its number. -/
theorem array_cells32 {H : Type} {enc : TypeId × Value → H} {w : World} {base fuel n : Nat} {spare : Nat → Bool} {held : Bool} {t : TypeId} {cs : List Value} {zs : List Int} {ps : List MemPlace}
    (ht : Tryz.prog.underlying t = some (.array n 49)) (hd : DataW.trod enc Tryz.prog w base spare held fuel t cs = some (.agg (zs.map fun z => .lit (.int .u32 z)), ps)) :
    zs.length = n ∧ ∀ i (h : i < zs.length), cs[i]? = some (.int .u32 zs[i]) := by
  obtain ⟨xs, m1, _, hx1, hcl, hn3, hel⟩ := DataW.trod_array ht hd
  simp only [Prod.mk.injEq, DataW.agg.injEq] at hx1
  have hl : zs.length = xs.length := by have := congrArg List.length hx1.1; simpa using this
  refine ⟨hl.trans hn3, fun i hi => ?_⟩
  have hix : i < xs.length := by omega
  have h0 := hel i (by omega)
  rw [cellsU32, Nat.mul_one, List.getElem?_eq_getElem hix] at h0
  obtain ⟨k, e1, e2, _⟩ := DataW.trod_int Tryz.underlying49 h0
  have hk : zs[i] = k := by
    have := congrArg (fun l => l[i]?) hx1.1
    simp [hi, hix, e2] at this
    exact this
  rw [hk]
  have : (cs.drop i)[0]? = some (.int .u32 k) := by
    cases h : cs.drop i with
    | nil => rw [h] at e1; simp at e1
    | cons c r => rw [h] at e1; simp at e1; simp [e1]
  simpa using this
theorem gStart : Tryz.prog.globalNamed "geyser/sum.start" = some 0 := by kernel_rfl
theorem tStart : (Tryz.prog.globals[0]?).map (·.type) = some 196 := by kernel_rfl
theorem gRounds : Tryz.prog.globalNamed "geyser/sum.rounds" = some 1 := by kernel_rfl
theorem tRounds : (Tryz.prog.globals[1]?).map (·.type) = some 231 := by kernel_rfl
def startL : List Int := [1779033703, 3144134277, 1013904242, 2773480762, 1359893119, 2600822924, 528734635, 1541459225]
def roundsL : List Int := Sha.kL.map fun k : Nat => (k : Int)
theorem rounds_get : ∀ k, k < 64 → roundsL[k]? = some ((Sha.kN k : Nat) : Int) := by decide +kernel
theorem start_get : ∀ k, k < 8 → startL[k]? = some ((Sha.start8.get k : Nat) : Int) := by decide +kernel
theorem array_get32 {H : Type} {enc : TypeId × Value → H} {w : World} {base fuel n : Nat} {spare : Nat → Bool} {held : Bool} {t : TypeId} {cs : List Value} {zs : List Int} {ps : List MemPlace}
    (ht : Tryz.prog.underlying t = some (.array n 49)) (hd : DataW.trod enc Tryz.prog w base spare held fuel t cs = some (.agg (zs.map fun z => .lit (.int .u32 z)), ps)) (k : Nat) (z : Int) (hz : zs[k]? = some z) :
    cs[k]? = some (.int .u32 z) := by
  have hk : k < zs.length := by
    rcases Nat.lt_or_ge k zs.length with h | h
    · exact h
    · rw [List.getElem?_eq_none h] at hz; cases hz
  have := (array_cells32 ht hd).2 k hk
  rw [List.getElem?_eq_getElem hk] at hz
  rw [← Option.some.inj hz]
  exact this
/-- What the condition gives the walks: the two tables. -/
theorem tabs_of {W : World} (h : laidMetH Tryz.prog [("geyser/sum.start", Rows.laid_geyser_sum_start), ("geyser/sum.rounds", Rows.laid_geyser_sum_rounds)] W) : Tabs W := by
  rw [MakeChecks.laidMetH_plain _ _ _ (by kernel_rfl)] at h
  obtain ⟨ps, ⟨g1, t1, cs1, f1, p1, q1, hg1, ht1, hv1, hd1, ⟨g2, t2, cs2, f2, p2, q2, hg2, ht2, hv2, hd2, _⟩, _⟩, _, _⟩ := h
  obtain rfl := Option.some.inj (gStart.symm.trans hg1)
  obtain rfl := Option.some.inj (tStart.symm.trans ht1)
  obtain rfl := Option.some.inj (gRounds.symm.trans hg2)
  obtain rfl := Option.some.inj (tRounds.symm.trans ht2)
  refine ⟨fun k hk => ?_, ?_⟩
  · rw [World.var?_cell hg2 hv2 k]
    have := array_get32 (zs := roundsL) Tryz.underlying231 hd2 k _ (rounds_get k hk)
    simpa using this
  · have hcs : cs1 = Sha.rowArr 8 (Sha.stV Sha.start8) := by
      have hl := (DataW.trod_array Tryz.underlying196 hd1)
      obtain ⟨xs, m1, _, _, hcl, _, _⟩ := hl
      rw [show Tryz.prog.cellsOf 196 = 8 by kernel_rfl] at hcl
      apply Array.ext_getElem?
      intro i
      by_cases hi : i < 8
      · have := array_get32 (zs := startL) Tryz.underlying196 hd1 i _ (start_get i hi)
        rw [← Array.getElem?_toList, this]
        simp [Sha.rowArr, hi, Sha.stV]
      · have h8 : cs1.size = 8 := by simpa using hcl
        rw [Array.getElem?_eq_none (by omega), Array.getElem?_eq_none (by rw [Sha.rowArr_size]; omega)]
    unfold World.var? at hv1
    rw [hg1] at hv1
    simp only [Option.bind_some] at hv1
    split at hv1
    · rename_i cs t fr heq
      have : cs = cs1 := Option.some.inj hv1
      exact ⟨t, fr, by rw [heq, this, hcs]⟩
    · cases hv1
/-- The door's own heap meets the condition. -/
theorem door_met2 (os : Os) (args : Array Value) : laidMetH Tryz.prog [("geyser/sum.start", Rows.laid_geyser_sum_start), ("geyser/sum.rounds", Rows.laid_geyser_sum_rounds)] ((World.doorLaid Tryz.prog 600 os).forCall (fun _ _ => 0) ⟨#[], args, []⟩).memory :=
  laidMetH_of_parts3 (fuel := 8) (laidMet_of_run' 8 (by kernel_rfl) (by kernel_rfl)) (by kernel_rfl) (by kernel_rfl)
end Go.Proofs.YtfgaohilpbocbaaGreatDoor
end

section
namespace Go.Proofs.YtfgaohilpbocbaaGreatDoor.Sha
open Go.ChangeShapes Go.WideShapes Go.ChangeAt Go.RowKit
set_option linter.unusedVariables false

/-- The table of package sum, as it is laid. -/
def Fours (w : World) : Prop := ∀ k, k < 16 → w.cell? ⟨2, k, none⟩ = some (.int .u32 (four k : Nat))

theorem xor_shr4 (a b : Nat) (ha : a < 4294967296) (hb : b < 4294967296) : bits .xor .u32 ((a : Int) / 16) (b : Int) = ((a / 16 ^^^ b : Nat) : Int) := xor32 (a / 16) b (by omega) hb

set_option maxHeartbeats 400000 in
theorem feed_any (s c : Nat) (hs : s < 4294967296) (hc : c < 256) (w : World) (hF : Fours w) :
    Calls Tryz.prog 104 #[.int .u32 (s : Int), .int .u8 (c : Int)] w fun e w' => e = .returned (.int .u32 ((feedN s c : Nat) : Int)) ∧ w = w' := by
  have e1 := xor32 s c hs (by omega)
  have b1 : s ^^^ c < 4294967296 := xor_lt32 hs (by omega)
  have hE := Lib.hid (feed_eq (s ^^^ c))
  have hd : feedN s c = stps 8 (s ^^^ c) := rfl
  have HD := Lib.hid hd
  clear hd
  generalize s ^^^ c = x at *
  have e2 := mask15 x b1
  have m1 : x % 16 < 16 := Nat.mod_lt _ (by omega)
  have h1 := hF (x % 16) m1
  have l1 := four_lt (x % 16) m1
  have e3 := xor_shr4 x (four (x % 16)) b1 l1
  have b2 : x / 16 ^^^ four (x % 16) < 4294967296 := xor_lt32 (by omega) l1
  generalize x / 16 ^^^ four (x % 16) = y at *
  have e4 := mask15 y b2
  have m2 : y % 16 < 16 := Nat.mod_lt _ (by omega)
  have h2 := hF (y % 16) m2
  have l2 := four_lt (y % 16) m2
  have e5 := xor_shr4 y (four (y % 16)) b2 l2
  have HF := Lib.hid hF
  clear hF
  go_enter Tryz.func104, Tryz.ntmps104
  go_wp2
  go_ret
  exact ⟨by rw [HD.out, ← hE.out]; rfl, rfl⟩

theorem feedAll_take (s : Nat) (l : List Nat) (k : Nat) (h : k < l.length) : feedAll s (l.take (k + 1)) = feedN (feedAll s (l.take k)) l[k] := by
  rw [List.take_succ_eq_append_getElem h, feedAll_snoc]

set_option maxHeartbeats 400000 in
theorem crc_some (b off cap : Nat) (l : List Nat) (w : World) (hl : l.length ≤ maxLen) (hb : IsByte l) (hc : BytesIn w b off l) (hF : Fours w) :
    Calls Tryz.prog 59 #[.slice (some ⟨b, off, none⟩) l.length cap] w fun e w' => e = .returned (.int .u32 ((crcN l : Nat) : Int)) ∧ w = w' := by
  unfold maxLen at hl
  have HC := Lib.hid hc
  have HB := Lib.hid hb
  have HF := Lib.hid hF
  clear hc hb hF
  go_enter Tryz.func59, Tryz.ntmps59
  go_wp2
  go_loop [3, 8] (fun s i => ∃ k t : Nat, k ≤ l.length ∧ t = feedAll 4294967295 (l.take k) ∧ t < 4294967296 ∧ i = .int .i64 k ∧ s = .int .u32 t) (fun _ i => l.length - (intOf i).toNat)
  case atStart => exact ⟨0, 4294967295, by omega, rfl, by omega, rfl, rfl⟩
  case round =>
    obtain ⟨k, t, hk, ht, htl, rfl, rfl⟩ := hrel
    have HT := Lib.hid ht
    clear ht
    by_cases hlt : k < l.length
    · have c0 := HC.out k hlt
      have y0 : l[k] < 256 := HB.out _ (List.getElem_mem hlt)
      have HS := Lib.hid (feedAll_take 4294967295 l k hlt)
      have hN := feedN_lt t l[k] htl y0
      generalize l[k] = c at *
      go_wp2_with (go_at_call 104; refine (feed_any _ _ htl y0 _ HF.out).mono ?_; rintro e w' ⟨rfl, rfl⟩)
      go_round
      case rel => exact ⟨k + 1, feedN t c, by omega, by rw [HS.out, HT.out], hN, by go_num, rfl⟩
      case measure => simp [intOf]; omega
    · have hx := turn32 t htl
      have HE : Hid (t ^^^ 4294967295 = crcN l) := by
        have := HT.out
        rw [List.take_of_length_le (by omega)] at this
        rw [this]; rfl
      go_wp2
      go_ret
      exact ⟨ret_u32 HE.out, rfl⟩

theorem crc_none (a : Option Addr) (cap : Nat) (w : World) :
    Calls Tryz.prog 59 #[.slice a 0 cap] w fun e w' => e = .returned (.int .u32 ((crcN [] : Nat) : Int)) ∧ w = w' := by
  go_enter Tryz.func59, Tryz.ntmps59
  go_wp2
  go_loop [3, 8] (fun s i => i = .int .i64 0 ∧ s = .int .u32 4294967295) (fun _ i => 0)
  case atStart => exact ⟨rfl, rfl⟩
  case round =>
    obtain ⟨rfl, rfl⟩ := hrel
    have hx := xor32 4294967295 4294967295 (by omega) (by omega)
    go_wp2
    go_ret
    exact ⟨by rfl, rfl⟩

/-! The document's CRC. -/

theorem the_bit (r c m : Nat) (hc : c < 256) : bits .xor .u64 ((r : Int) % 2) (IntKind.u64.wrap (bits .and .u8 ((c : Int) / 2 ^ m) 1)) = ((r % 2 ^^^ c / 2 ^ m % 2 : Nat) : Int) := by
  have h2 : c / 2 ^ m < 256 := Nat.lt_of_le_of_lt (Nat.div_le_self _ _) hc
  have h := u8_and_nat (c / 2 ^ m) 1 h2 (by omega)
  rw [nat_mask1] at h
  have e : ((c : Int) / 2 ^ m) = ((c / 2 ^ m : Nat) : Int) := by simp
  have h' : bits .and .u8 ((c : Int) / 2 ^ m) 1 = ((c / 2 ^ m % 2 : Nat) : Int) := by rw [e]; exact h
  rw [h', IntKind.wrap_u64]
  have := u64_xor_nat (r % 2) (c / 2 ^ m % 2) (by omega) (by omega)
  rw [← this]
  congr 1
  omega

theorem the_turn (r : Nat) (hr : r < 4294967296) : bits .xor .u64 ((r : Int) / 2) 3988292384 = ((r / 2 ^^^ 3988292384 : Nat) : Int) := u64_xor_nat (r / 2) 3988292384 (by omega) (by omega)

set_option maxHeartbeats 400000 in
theorem ref_some (b off cap : Nat) (l : List Nat) (w : World) (hl : l.length ≤ maxLen) (hb : IsByte l) (hc : BytesIn w b off l) :
    Calls Tryz.prog 38 #[.slice (some ⟨b, off, none⟩) l.length cap] w fun e w' => e = .returned (.int .u32 ((crcN l : Nat) : Int)) ∧ w = w' := by
  unfold maxLen at hl
  have HC := Lib.hid hc
  have HB := Lib.hid hb
  clear hc hb
  go_enter Tryz.func38, Tryz.ntmps38
  go_wp2
  go_loop [3, 9] (fun s i => ∃ k t : Nat, k ≤ l.length ∧ t = feedAll 4294967295 (l.take k) ∧ t < 4294967296 ∧ i = .int .i64 k ∧ s = .int .u64 t) (fun _ i => l.length - (intOf i).toNat)
  case atStart => exact ⟨0, 4294967295, by omega, rfl, by omega, rfl, rfl⟩
  case round =>
    obtain ⟨k, t, hk, ht, htl, rfl, rfl⟩ := hrel
    have HT := Lib.hid ht
    clear ht
    by_cases hlt : k < l.length
    · have c0 := HC.out k hlt
      have y0 : l[k] < 256 := HB.out _ (List.getElem_mem hlt)
      have HS := Lib.hid (feedAll_take 4294967295 l k hlt)
      have hN := feedN_lt t l[k] htl y0
      generalize l[k] = c at *
      go_wp2
      go_loop [3, 12] (fun s i => ∃ m r : Nat, m ≤ 8 ∧ r = bitSteps t c m ∧ r < 4294967296 ∧ i = .int .i64 m ∧ s = .int .u64 r) (fun _ i => 8 - (intOf i).toNat)
      case atStart => exact ⟨0, t, by omega, rfl, htl, rfl, rfl⟩
      case round =>
        obtain ⟨m, r, hm, hr, hrl, rfl, rfl⟩ := hrel
        have HR := Lib.hid hr
        by_cases hlm : m < 8
        · have e1 := the_bit r c m y0
          have e2 := the_turn r hrl
          have hd : bitSteps t c (m + 1) = bitStep r c m := by rw [hr]; rfl
          have hb2 : bitStep r c m = r / 2 ^^^ (if (r % 2 ^^^ c / 2 ^ m % 2) = 1 then 3988292384 else 0) := rfl
          have hbl := bitStep_lt r c m hrl
          have HD := Lib.hid (hd.trans hb2)
          rw [hb2] at hbl
          have HL := Lib.hid hbl
          clear hd hb2 hbl hr
          generalize (r % 2 ^^^ c / 2 ^ m % 2) = d at *
          by_cases hd1 : d = 1
          · subst hd1
            have h1 : (((1 : Nat) : Int) == 1) = true := rfl
            go_wp2
            go_round
            case rel => exact ⟨m + 1, r / 2 ^^^ 3988292384, by omega, HD.out.symm, HL.out, by go_num, rfl⟩
            case measure => simp [intOf]; omega
          · have h1 : ((d : Int) == 1) = false := by simp; omega
            have HX := Lib.hid hd1
            clear hd1
            go_wp2
            go_round
            case rel =>
              have h3 := HD.out
              rw [if_neg HX.out, Nat.xor_zero] at h3
              exact ⟨m + 1, r / 2, by omega, h3.symm, by omega, by go_num, rfl⟩
            case measure => simp [intOf]; omega
        · have hm8 : m = 8 := by omega
          subst hm8
          clear hr
          go_wp2
          go_round
          case rel => exact ⟨k + 1, r, by omega, by rw [HS.out, ← HT.out, HR.out, bit_steps8 _ _ y0], hrl, by go_num, rfl⟩
          case measure => simp [intOf]; omega
    · have hx : bits .xor .u64 (t : Int) 4294967295 = ((t ^^^ 4294967295 : Nat) : Int) := u64_xor_nat t 4294967295 (by omega) (by omega)
      have HE : Hid (t ^^^ 4294967295 = crcN l) := by
        have := HT.out
        rw [List.take_of_length_le (by omega)] at this
        rw [this]; rfl
      have hlt : t ^^^ 4294967295 < 4294967296 := turn_lt t htl
      generalize t ^^^ 4294967295 = z at *
      go_wp2
      go_ret
      exact ⟨ret_u32 HE.out, rfl⟩

theorem ref_none (a : Option Addr) (cap : Nat) (w : World) :
    Calls Tryz.prog 38 #[.slice a 0 cap] w fun e w' => e = .returned (.int .u32 ((crcN [] : Nat) : Int)) ∧ w = w' := by
  go_enter Tryz.func38, Tryz.ntmps38
  go_wp2
  go_loop [3, 9] (fun s i => i = .int .i64 0 ∧ s = .int .u64 4294967295) (fun _ i => 0)
  case atStart => exact ⟨rfl, rfl⟩
  case round =>
    obtain ⟨rfl, rfl⟩ := hrel
    go_wp2
    go_ret
    exact ⟨by rfl, rfl⟩

theorem Fours.lt {w : World} (h : Fours w) : 2 < w.heap.size := World.block_lt_of_cell? w ⟨2, 0, none⟩ (h 0 (by omega))

theorem Fours.below {w w' : World} {B : Nat} (h : Fours w) (hB : 2 < B) (b : Below B w w') : Fours w' := fun k hk => by
  rw [b.cell (p := ⟨2, k, none⟩) hB]; exact h k hk

theorem crc_any (a : Option Addr) (cap : Nat) (l : List Nat) (w : World) (hl : l.length ≤ maxLen) (hb : IsByte l) (hc : BytesAt w a l) (hF : Fours w) :
    Calls Tryz.prog 59 #[.slice a l.length cap] w fun e w' => e = .returned (.int .u32 ((crcN l : Nat) : Int)) ∧ w = w' := by
  rcases hc with rfl | ⟨b, off, rfl, hc⟩
  · exact crc_none a cap w
  · exact crc_some b off cap l w hl hb hc hF

theorem ref_any (a : Option Addr) (cap : Nat) (l : List Nat) (w : World) (hl : l.length ≤ maxLen) (hb : IsByte l) (hc : BytesAt w a l) :
    Calls Tryz.prog 38 #[.slice a l.length cap] w fun e w' => e = .returned (.int .u32 ((crcN l : Nat) : Int)) ∧ w = w' := by
  rcases hc with rfl | ⟨b, off, rfl, hc⟩
  · exact ref_none a cap w
  · exact ref_some b off cap l w hl hb hc

end Go.Proofs.YtfgaohilpbocbaaGreatDoor.Sha
namespace Go.Proofs.YtfgaohilpbocbaaGreatDoor
open Go.ChangeShapes Go.WideShapes Go.ChangeAt Go.RowKit Go.Joins
/-- The CRC of bytes. -/
def crcOf (l : List Nat) : Nat := Sha.crcN l
def Fours (w : World) : Prop := Sha.Fours w
theorem Fours.below {w w' : World} (h : Fours w) (k : Below w.heap.size w w') : Fours w' := Sha.Fours.below h (Sha.Fours.lt h) k
theorem crcOf_lt (l : List Nat) (h : IsByte l) : crcOf l < 4294967296 := Sha.turn_lt _ (Sha.feedAll_lt l _ (by omega) h)
theorem crc_sl (a : Option Addr) (c : Nat) (l : List Nat) (w : World) (hs : Sl w a c l) (hF : Fours w) :
    Calls Tryz.prog 59 #[.slice a l.length c] w fun e w' => e = .returned (.int .u32 ((crcOf l : Nat) : Int)) ∧ w = w' :=
  Sha.crc_any a c l w (Nat.le_trans hs.len hs.most) hs.byte (sl_sha hs) hF
theorem refCrc_sl (a : Option Addr) (c : Nat) (l : List Nat) (w : World) (hs : Sl w a c l) :
    Calls Tryz.prog 38 #[.slice a l.length c] w fun e w' => e = .returned (.int .u32 ((crcOf l : Nat) : Int)) ∧ w = w' :=
  Sha.ref_any a c l w (Nat.le_trans hs.len hs.most) hs.byte (sl_sha hs)
end Go.Proofs.YtfgaohilpbocbaaGreatDoor
end

section
namespace Go.Proofs.YtfgaohilpbocbaaGreatDoor
open Go.ChangeShapes Go.WideShapes Go.ChangeAt Go.RowKit Go.Joins
set_option linter.unusedVariables false

theorem own18 : ownKnob Tryz.prog.godebug = none := by kernel_rfl
theorem laidOut18 : laidOutB Tryz.prog = true := by kernel_rfl
def laid18 : List (String × DataW Unit) := [("unicode/utf8.acceptRanges", Rows.laid_unicode_utf8_acceptRanges), ("geyser/sum.fours", Rows.laid_geyser_sum_fours), ("geyser/sum.start", Rows.laid_geyser_sum_start), ("geyser/sum.rounds", Rows.laid_geyser_sum_rounds), ("unicode/utf8.first", Rows.laid_unicode_utf8_first)]
theorem plain18 : laidMetH Tryz.prog laid18 = laidMet Tryz.prog laid18 := by funext w; exact MakeChecks.laidMetH_plain _ _ _ (by kernel_rfl)
theorem tabs18 {W : World} (h0 : laidMetH Tryz.prog laid18 W) : Tabs W := by
  rw [plain18] at h0
  have h := h0.tail.tail
  obtain ⟨ps, ⟨g1, t1, cs1, f1, p1, q1, hg1, ht1, hv1, hd1, ⟨g2, t2, cs2, f2, p2, q2, hg2, ht2, hv2, hd2, _⟩, _⟩, _, _⟩ := h
  obtain rfl := Option.some.inj (gStart.symm.trans hg1)
  obtain rfl := Option.some.inj (tStart.symm.trans ht1)
  obtain rfl := Option.some.inj (gRounds.symm.trans hg2)
  obtain rfl := Option.some.inj (tRounds.symm.trans ht2)
  refine ⟨fun k hk => ?_, ?_⟩
  · rw [World.var?_cell hg2 hv2 k]
    have := array_get32 (zs := roundsL) Tryz.underlying231 hd2 k _ (rounds_get k hk)
    simpa using this
  · have hcs : cs1 = Sha.rowArr 8 (Sha.stV Sha.start8) := by
      have hl := (DataW.trod_array Tryz.underlying196 hd1)
      obtain ⟨xs, m1, _, _, hcl, _, _⟩ := hl
      rw [show Tryz.prog.cellsOf 196 = 8 by kernel_rfl] at hcl
      apply Array.ext_getElem?
      intro i
      by_cases hi : i < 8
      · have := array_get32 (zs := startL) Tryz.underlying196 hd1 i _ (start_get i hi)
        rw [← Array.getElem?_toList, this]
        simp [Sha.rowArr, hi, Sha.stV]
      · have h8 : cs1.size = 8 := by simpa using hcl
        rw [Array.getElem?_eq_none (by omega), Array.getElem?_eq_none (by rw [Sha.rowArr_size]; omega)]
    unfold World.var? at hv1
    rw [hg1] at hv1
    simp only [Option.bind_some] at hv1
    split at hv1
    · rename_i cs t fr heq
      have : cs = cs1 := Option.some.inj hv1
      exact ⟨t, fr, by rw [heq, this, hcs]⟩
    · cases hv1
theorem shaped18 (os : Os) : (World.laidAll Tryz.prog os laid18).Shaped Tryz.prog := World.shaped_of_ZipB (by kernel_rfl) (by kernel_rfl)
theorem met18 (os : Os) (args : Array Value) : laidMetH Tryz.prog laid18 ((World.laidAll Tryz.prog os laid18).forCall (fun _ _ => 0) ⟨#[], args, []⟩).memory := by
  rw [plain18]; exact laidMet_laidAll _ (by kernel_rfl) (by kernel_rfl)
theorem gFours : Tryz.prog.globalNamed "geyser/sum.fours" = some 2 := by kernel_rfl
theorem tFours : (Tryz.prog.globals[2]?).map (·.type) = some 234 := by kernel_rfl
def foursL : List Int := [0, 498536548, 997073096, 651767980, 1994146192, 1802195444, 1303535960, 1342533948, 3988292384, 4027552580, 3604390888, 3412177804, 2607071920, 2262029012, 2685067896, 3183342108]
theorem fours_get : ∀ k, k < 16 → foursL[k]? = some ((Sha.four k : Nat) : Int) := by decide
theorem fours18 {W : World} (h0 : laidMetH Tryz.prog laid18 W) : Fours W := by
  rw [plain18] at h0
  have h := h0.tail
  obtain ⟨ps, ⟨g1, t1, cs1, f1, p1, q1, hg1, ht1, hv1, hd1, _⟩, _, _⟩ := h
  obtain rfl := Option.some.inj (gFours.symm.trans hg1)
  obtain rfl := Option.some.inj (tFours.symm.trans ht1)
  intro k hk
  rw [World.var?_cell hg1 hv1 k]
  have := array_get32 (zs := foursL) Tryz.underlying234 hd1 k _ (fours_get k hk)
  simpa using this
set_option maxRecDepth 100000 in
theorem rows_arg {H : Type} {enc : TypeId × Value → H} {w : World} {base : Nat} {held : Bool} {r : Reach} {b0 : Nat} {v : Value} {d : DataW H} {q : List MemPlace} (hv : Value.okWide Tryz.prog w r b0 31 v) (h : DataW.Trod enc Tryz.prog w base (fun _ => true) held 31 v d q) :
    ∃ a l cap, v = .slice a (l : Rws).length cap ∧ Rs w.heap.size w a cap l := by
  obtain ⟨a, n, c, rfl⟩ := okWide_slice Tryz.underlying31 hv
  obtain ⟨fuel, hf⟩ := h
  obtain ⟨a', cap', l, e, hs⟩ := rows_in hf
  exact ⟨a', l, cap', e, hs⟩
end Go.Proofs.YtfgaohilpbocbaaGreatDoor
end
