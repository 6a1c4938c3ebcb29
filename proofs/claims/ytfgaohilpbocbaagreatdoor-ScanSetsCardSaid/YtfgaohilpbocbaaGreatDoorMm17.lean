/-
  Package packet: Encode.
  Package packet's named: a directory's name.
  The shelf's contracts on strings.Split and strings.HasSuffix, laid at this dump.
  Package rule: whether a name may have a byte; whether a file may have a name.
  Package rule: whether a file may have a name.
-/
import Derived.Test.YtfgaohilpbocbaaGreatDoorMm16
import Derived.Shelf.Strings.SplitShaped
import Derived.Shelf.Strings.Prefix
import Derived.Test.YtfgaohilpbocbaaGreatDoorRows
import Derived.Deep.DeepCutAuto
import Derived.Deep.CutRange
import Derived.Deep.CutBlock
section
namespace Go.Proofs.YtfgaohilpbocbaaGreatDoor
open Go.ChangeShapes Go.WideShapes Go.ChangeAt Go.RowKit Go.Joins
set_option linter.unusedVariables false

def EncPost (p : Pk) (w : World) (e : Ending) (w' : World) : Prop :=
  Below w.heap.size w w' ∧ (pkOk p → ∃ a c, e = .returned (.tuple #[.slice a (pkBytes p).length c, .int .i64 0]) ∧ Sl w' a c (pkBytes p)) ∧ (¬ pkOk p → e = .returned (.tuple #[.slice none 0 0, .int .i64 1]))
/-- An Out of one's own, all of it newer than w9. -/
structure EnSt (w9 : World) (b : Nat) (s : Option (List Nat)) (q : Nat) (wr : World) : Prop where
  out : ∃ X, OutAt X wr b s q ∧ ∀ k, X k → w9.heap.size ≤ k
  below : Below w9.heap.size w9 wr
theorem EnSt.put {w9 : World} {b : Nat} {s s' : Option (List Nat)} {q q' : Nat} {wr : World} (h : EnSt w9 b s q wr) {f : FuncId} {args : Array Value}
    (hc : ∀ X, OutAt X wr b s q → Calls Tryz.prog f args wr (OutPost OutAt X wr b s' q')) : Calls Tryz.prog f args wr fun e w' => e = .returned (.tuple #[]) ∧ EnSt w9 b s' q' w' := by
  obtain ⟨X, h1, h2⟩ := h.out
  refine (hc X h1).mono ?_
  rintro e w' ⟨rfl, X', o, hx, fr⟩
  refine ⟨rfl, ⟨X', o, fun k hk => ?_⟩, h.below.trans (fr.below h.below.size fun k hk hX => by have := h2 k hX; omega)⟩
  rcases hx k hk with h3 | h3
  · exact h2 k h3
  · have := h.below.size
    omega
theorem EnSt.later {w9 : World} {b : Nat} {s : Option (List Nat)} {q : Nat} {wr w' : World} (h : EnSt w9 b s q wr) (k : Below wr.heap.size wr w') : EnSt w9 b s q w' := by
  obtain ⟨X, h1, h2⟩ := h.out
  exact ⟨⟨X, h1.keep (Fr.of_below (X := fun _ => False) k) (fun _ _ h => h), h2⟩, h.below.trans (k.mono h.below.size)⟩
theorem arr8_cells {w : World} {B : Nat} {p : Pk} {sa : Option Addr} {sc : Nat} {da : Option Addr} {dc : Nat} (h : Row w B 100 51 51 (pkV p sa sc da dc)) : ∀ j, j < 8 → w.cell? ⟨B, 0 + j, none⟩ = some (vOf p.set j) := fun j hj => by
  rw [Nat.zero_add, h.cell j (by omega), pkV_set _ _ _ _ _ hj]
theorem dg_sl {w : World} {g : Nat} {l : List Nat} (h : w.heap[g]? = some (.cells (rowArr 32 (vOf l)) 50 (0, 0))) (hl : l.length = 32) (hb : IsByte l) : Sl w (some ⟨g, 0, none⟩) 32 l := by
  refine ⟨hb, by rw [hl]; exact Nat.le_refl _, by unfold maxLen; omega, fun e => (by cases e), .inr ⟨g, 0, rfl, fun i hi => ?_⟩⟩
  have hi8 : i < 32 := by rw [hl] at hi; exact hi
  rw [cell_of_block h, ← vOf_eq l i hi, Nat.zero_add]
  simp [rowArr, hi8]

set_option maxRecDepth 1000000 in
set_option maxHeartbeats 8000000 in
theorem encode_any (p : Pk) (sa : Option Addr) (sc : Nat) (da : Option Addr) (dc : Nat) (w : World) (hp : PkAt w p sa sc da dc) (hq : tellQ p ≤ 15000) (ht : Tabs w) :
    Calls Tryz.prog 109 #[.agg (rowArr 51 (pkV p sa sc da dc))] w (EncPost p w) := by
  have mixed : Tryz.prog.follows .mixedOrders = true := by kernel_rfl
  have hHB : Below w.heap.size w (w.alloc (.cells (rowArr 51 (pkV p sa sc da dc)) 100)) := (Below.refl _ _).alloc (Nat.le_refl _) _
  have hHP : Row (w.alloc (.cells (rowArr 51 (pkV p sa sc da dc)) 100)) w.heap.size 100 51 51 (pkV p sa sc da dc) := Row.of_whole (heap_alloc_last w _)
  have HB := Lib.hid hHB
  have HP := Lib.hid hHP
  have HPK := Lib.hid (hp.below hHB)
  have HT0 := Lib.hid ht
  have hqq : 100 + p.file.name.length + 44 * p.sums.length + p.data.length ≤ 15000 := hq
  have HPL := Lib.hid (plain_any p sa sc da dc (w.alloc (.cells (rowArr 51 (pkV p sa sc da dc)) 100)) hp.okk.file (by omega) (by omega))
  obtain ⟨AQ, hAQ⟩ : ∃ AQ, AQ = rowArr 51 (pkV p sa sc da dc) := ⟨_, rfl⟩
  have HAS : Hid (AQ.size = 51) := by show _ = _; rw [hAQ, rowArr_size]
  rw [← hAQ] at HB HP HPK HPL ⊢
  have HAQ := Lib.hid hAQ
  have HBP := Lib.hid hp
  clear hAQ hHB hHP hp ht hqq
  go_enter Tryz.func109, Tryz.ntmps109
  go_upto_region 1 with fail
  obtain ⟨B, hB⟩ : ∃ B, B = w.heap.size := ⟨_, rfl⟩
  have hwB : w.heap.size ≤ B := by omega
  have hwB2 : B ≤ w.heap.size := by omega
  rw [← hB] at HP ⊢
  generalize w.alloc (.cells AQ 100) = w1 at *
  clear hB
  have HWH : Hid (w1.heap[B]? = some (.cells AQ 100 (0, 0))) := by show _ = _; rw [HAQ.out]; exact HP.out.whole
  by_cases hpl : plainP p
  · rw [decide_eq_true hpl] at HPL
    have HPN := Lib.hid hpl
    clear hpl
    go_upto_region 3 with (first
      | (refine wpList_load_row rfl 100 _ rfl B rfl 100 AQ (0, 0) _ HWH.out Tryz.underlying100 rfl (by rw [HAS.out]; kernel_rfl) ?_)
      | (go_at_call 140; (with_reducible refine HPL.out.mono ?_); rintro e w2 ⟨rfl, b2⟩; have HB12 := Lib.hid b2; clear b2))
    have HB2 : Hid (Below w.heap.size w w2) := HB.out.trans (HB12.out.mono HB.out.size)
    have HP2 : Hid (Row w2 B 100 51 51 (pkV p sa sc da dc)) := HP.out.fr (X := fun _ => False) (Fr.of_below HB12.out) (fun h => h)
    have HPK2 := Lib.hid (HPK.out.below HB12.out)
    have hZ := OutAt.zero w2
    have hBZ : Below w2.heap.size w2 (w2.alloc (.cells outZ 239)) := (Below.refl _ _).alloc (Nat.le_refl _) _
    have HZ := Lib.hid hZ
    have HBZ := Lib.hid hBZ
    clear HB HP HPK HPL HWH hZ hBZ HB12
    go_upto_region 4 with fail
    change Code.wp _ _ _ _ (w2.alloc (.cells outZ 239))
    obtain ⟨tb, htb⟩ : ∃ tb, tb = w2.heap.size := ⟨_, rfl⟩
    have htb2 : w2.heap.size ≤ tb := by omega
    have htb3 : tb ≤ w2.heap.size := by omega
    rw [← htb] at HZ ⊢
    generalize w2.alloc (.cells outZ 239) = w3 at *
    clear htb
    have hBt : B < tb := by have := HP2.out.lt; omega
    have HB3 : Hid (Below w.heap.size w w3) := HB2.out.trans (HBZ.out.mono HB2.out.size)
    have HP3 : Hid (Row w3 B 100 51 51 (pkV p sa sc da dc)) := HP2.out.fr (X := fun _ => False) (Fr.of_below HBZ.out) (fun h => h)
    have HWH3 : Hid (w3.heap[B]? = some (.cells AQ 100 (0, 0))) := by show _ = _; rw [HAQ.out]; exact HP3.out.whole
    have hqq : 100 + p.file.name.length + 44 * p.sums.length + p.data.length ≤ 15000 := hq
    have HTL := Lib.hid (tell_any (fun k => k = tb) w3 tb (some []) 0 p sa sc da dc HZ.out (HPK2.out.below HBZ.out) (fun e r hr hk => by
      rcases HPK2.out.sums.here with h | ⟨b', off, h, h2, _⟩
      · exact e h
      · rw [h] at hr; cases hr; have h3 : b' = tb := hk; omega) (fun e r hr hk => by have := HPK2.out.data.blk r hr e; omega) (by omega) (by omega) (by omega))
    rw [← HAQ.out] at HTL
    have hTQ : tellQ p ≤ 15000 := hq
    obtain ⟨TQ, hTQ2⟩ : ∃ TQ, TQ = tellQ p := ⟨_, rfl⟩
    obtain ⟨TL, hTLe⟩ : ∃ TL, TL = tellN (some []) p := ⟨_, rfl⟩
    rw [← hTQ2, ← hTLe] at HTL
    rw [← hTQ2] at hTQ
    have HTQE := Lib.hid hTQ2
    have HTLE := Lib.hid hTLe
    have HOKI := Lib.hid HPK2.out.okk
    clear HZ HB2 HP2 HPK2 HBZ hq hqq hTQ2 hTLe HBP
    go_upto_region 5 with (first
      | (refine wpList_load_row rfl 100 _ rfl B rfl 100 AQ (0, 0) _ HWH3.out Tryz.underlying100 rfl (by rw [HAS.out]; kernel_rfl) ?_)
      | (go_at_call 138; (with_reducible refine HTL.out.mono ?_); rintro e w4 ⟨rfl, X, ho, hX, hf⟩; have HO4 := Lib.hid ho; have HX4 := Lib.hid hX; have HF4 := Lib.hid hf; clear ho hX hf HTL))
    have HB4 : Hid (Below w.heap.size w w4) := HB3.out.trans (HF4.out.below HB3.out.size fun k hk e => by have := HP3.out.lt; omega)
    have HP4 : Hid (Row w4 B 100 51 51 (pkV p sa sc da dc)) := HP3.out.fr HF4.out (by omega)
    clear HB3 HP3 HWH3 HF4
    cases hte : TL with
    | none =>
      have HNO : Hid (¬ pkOk p) := fun ho => by
        have := (tell_ok HOKI.out ho).2
        rw [← HTLE.out, hte] at this
        cases this
      rw [hte] at HO4
      have HEB := Lib.hid (end_bad X w4 tb _ HO4.out)
      clear hte HO4 HTLE
      go_wp2_with fail
      (with_reducible refine HEB.out.mono ?_)
      rintro e w5 ⟨a1, c1, rfl, b5⟩
      have HB5 : Hid (Below w.heap.size w w5) := HB4.out.trans (b5.mono HB4.out.size)
      clear b5 HEB
      go_wp2_with fail
      go_ret2
      exact ⟨HB5.out, fun ho => absurd ho HNO.out, fun _ => rfl⟩
    | some l =>
      have hok : pkOk p := tell_get HOKI.out HPN.out (by rw [← HTLE.out, hte])
      have hlk : l = kbN p.kind (pkBody p) := by
        have := (tell_ok HOKI.out hok).2
        rw [← HTLE.out, hte] at this
        exact Option.some.inj this
      have hll : l.length ≤ TQ := by rw [hlk, HTQE.out]; exact tell_len HOKI.out hok
      rw [hte] at HO4
      have HOK := Lib.hid hok
      have HLK := Lib.hid hlk
      have HEN := Lib.hid (end_ok X w4 tb l _ HO4.out (by omega))
      have h8 := HOKI.out.set8
      have h8b := HOKI.out.setb
      clear hte HO4 HTLE hok hlk
      go_wp2_with fail
      (with_reducible refine HEN.out.mono ?_)
      rintro e w5 ⟨a1, c1, rfl, hs, b5⟩
      have HB5 : Hid (Below w.heap.size w w5) := HB4.out.trans (b5.mono HB4.out.size)
      have HS5 := Lib.hid hs
      have HP5 : Hid (Row w5 B 100 51 51 (pkV p sa sc da dc)) := HP4.out.fr (X := fun _ => False) (Fr.of_below b5) (fun h => h)
      have HCK := Lib.hid (check_any p.set a1 c1 l w5 h8 h8b hs (by omega) (HT0.out.below HB5.out))
      have hlm := hs.lt
      have hcm : c1 ≤ 9223372036854775807 := by have := hs.most; unfold maxLen at this; omega
      clear b5 hs HEN HB4 HP4
      go_upto_region 8 with fail
      have HC8 := Lib.hid (arr8_cells HP5.out)
      obtain ⟨A3, hA3⟩ : ∃ A3, A3 = rowArr 8 (vOf p.set) := ⟨_, rfl⟩
      have V3 : Hid (rowArr 8 (vOf p.set) = A3) := hA3.symm
      have hDl := dgN_len (p.set ++ l)
      have hDb := dgN_byte (p.set ++ l)
      obtain ⟨D, hD⟩ : ∃ D, D = dgN (p.set ++ l) := ⟨_, rfl⟩
      rw [← hA3, ← hD] at HCK
      rw [← hD] at hDl hDb
      have HDE := Lib.hid hD
      have HDL := Lib.hid hDl
      have HDB := Lib.hid hDb
      clear hA3 hD hDl hDb
      go_upto_region 9 with (first
        | (refine wpList_load_v (by rfl) 64 _ rfl B 0 8 _ A3 V3.out rfl _ HC8.out Tryz.underlying64 rfl (by kernel_rfl) ?_)
        | (go_at_call 88; (with_reducible refine HCK.out.mono ?_); rintro e w6 ⟨rfl, b6⟩; have HB56 := Lib.hid b6; clear b6 HCK; have HALL : Hid (∀ c : Array Value, (w6.alloc (.cells c 50)).heap[w6.heap.size]? = some (.cells c 50 (0, 0))) := (fun c => heap_alloc_last w6 _); have HALB : Hid (∀ c : Array Value, Below w6.heap.size w6 (w6.alloc (.cells c 50))) := (fun c => (Below.refl _ _).alloc (Nat.le_refl _) _))
        | (refine wpList_store_arr rfl 50 _ _ rfl w6.heap.size (rowArr 32 (vOf D)) rfl rfl 50 _ (HALL.out _) (by rw [rowArr_size]; kernel_rfl) (by rw [rowArr_size]; rfl) (oneCell_v D 32) ?_; intro w7 HC7 hf7; have HB67 : Hid (Below w6.heap.size w6 w7) := (HALB.out _).trans (hf7.out.below (HALB.out _).size (fun k hk e => by omega)); clear hf7 HALL HALB))
      obtain ⟨db, hdb⟩ : ∃ db, db = w6.heap.size := ⟨_, rfl⟩
      rw [← hdb] at HC7 ⊢
      have HB57 : Hid (Below w5.heap.size w5 w7) := HB56.out.trans (HB67.out.mono HB56.out.size)
      have HS7 := Lib.hid (HS5.out.below HB57.out)
      have HP7 : Hid (Row w7 B 100 51 51 (pkV p sa sc da dc)) := HP5.out.fr (X := fun _ => False) (Fr.of_below HB57.out) (fun h => h)
      have HSD7 := Lib.hid (dg_sl HC7.out HDL.out HDB.out)
      have HST7 := Lib.hid (pk_st HP7.out HOKI.out)
      have HB7 : Hid (Below w.heap.size w w7) := HB5.out.trans (HB57.out.mono HB5.out.size)
      have hE : EnSt w7 w7.heap.size (some []) 0 (w7.alloc (.cells outZ 239)) := ⟨⟨_, OutAt.zero w7, fun k hk => by have h2 : k = w7.heap.size := hk; omega⟩, (Below.refl _ _).alloc (Nat.le_refl _) _⟩
      have HE := Lib.hid hE
      have H8 := Lib.hid h8
      clear hdb HB56 HB67 HC7 HS5 HP5 HB5 HB57 HP7 hE h8 h8b V3 HC8 HDB HT0 HOKI HPN
      go_upto_region 10 with fail
      change Code.wp _ _ _ _ (w7.alloc (.cells outZ 239))
      obtain ⟨ab, hab⟩ : ∃ ab, ab = w7.heap.size := ⟨_, rfl⟩
      rw [← hab] at HE ⊢
      generalize w7.alloc (.cells outZ 239) = w8 at *
      clear hab
      have hcc := Go.Lib.run_convert_bytes_const (P := Tryz.prog) w8 53 5 #[.int .u8 71, .int .u8 89, .int .u8 83, .int .u8 49] 4 4 Tryz.underlying53 Tryz.underlying5
      have hG : (w8.alloc (.cells #[.int .u8 71, .int .u8 89, .int .u8 83, .int .u8 49] 5 (4, 5))).heap[w8.heap.size]? = some (.cells #[.int .u8 71, .int .u8 89, .int .u8 83, .int .u8 49] 5 (4, 5)) := heap_alloc_last w8 _
      have hBM : Below w8.heap.size w8 (w8.alloc (.cells #[.int .u8 71, .int .u8 89, .int .u8 83, .int .u8 49] 5 (4, 5))) := (Below.refl _ _).alloc (Nat.le_refl _) _
      have hGS : Sl (w8.alloc (.cells #[.int .u8 71, .int .u8 89, .int .u8 83, .int .u8 49] 5 (4, 5))) (some ⟨w8.heap.size, 0, none⟩) 4 [71, 89, 83, 49] := by
        refine ⟨by intro x hx; simp at hx; omega, by simp, by unfold maxLen; simp, fun e => (by cases e), .inr ⟨w8.heap.size, 0, rfl, fun j hj => ?_⟩⟩
        have hj4 : j < 4 := hj
        rw [cell_of_row _ _ _ _ _ _ hG]
        match j, hj4 with
        | 0, _ => rfl
        | 1, _ => rfl
        | 2, _ => rfl
        | 3, _ => rfl
      have HN := Lib.hid ((HE.out.later hBM).put (s' := some [71, 89, 83, 49]) (q' := 0 + 4) fun X hX => outR_any X _ ab _ _ (some ⟨w8.heap.size, 0, none⟩) 4 [71, 89, 83, 49] hX (by omega) hGS (by simp))
      rw [show ([71, 89, 83, 49] : List Nat).length = 4 from rfl] at HN
      clear hG hBM hGS HE
      go_wp2_with fail
      (with_reducible refine HN.out.mono ?_)
      rintro e w9 ⟨rfl, h9⟩
      have E9 := Lib.hid h9
      clear h9 HN hcc
      obtain ⟨Z, hZ⟩ : ∃ Z, Z = 48 + l.length := ⟨_, rfl⟩
      have hZ2 : (48 : Int) + (l.length : Int) = (Z : Int) := by omega
      have HZE := Lib.hid hZ
      have hZb : Z ≤ 30000 := by omega
      clear hZ
      have HN := Lib.hid (E9.out.put (s' := some ([71, 89, 83, 49] ++ wideN Z 4)) (q' := 0 + 4 + 6) fun X hX => by
        have h := outN_any X w9 ab _ _ (Z : Int) 4 hX (by omega) ⟨by omega, by omega⟩ ⟨by omega, by omega⟩
        rw [putN4n (by omega)] at h
        exact h)
      go_wp2_with fail
      (with_reducible refine HN.out.mono ?_)
      rintro e w10 ⟨rfl, h10⟩
      have E10 := Lib.hid h10
      clear h10 HN E9 hZ2
      have HN := Lib.hid (E10.out.put (s' := some ([71, 89, 83, 49] ++ wideN Z 4 ++ p.set)) (q' := 0 + 4 + 6 + 8) fun X hX => by
        have h := outR_any X w10 ab _ _ (some ⟨B, 0, none⟩) 8 p.set hX (by omega) (HST7.out.below E10.out.below) (by rw [H8.out]; omega)
        rw [H8.out] at h
        exact h)
      go_wp2_with fail
      (with_reducible refine HN.out.mono ?_)
      rintro e w11 ⟨rfl, h11⟩
      have E11 := Lib.hid h11
      clear h11 HN E10
      have HN := Lib.hid (E11.out.put (s' := some ([71, 89, 83, 49] ++ wideN Z 4 ++ p.set ++ D)) (q' := 0 + 4 + 6 + 8 + 32) fun X hX => by
        have h := outR_any X w11 ab _ _ (some ⟨db, 0, none⟩) 32 D hX (by omega) (HSD7.out.below E11.out.below) (by rw [HDL.out]; omega)
        rw [HDL.out] at h
        exact h)
      go_wp2_with fail
      (with_reducible refine HN.out.mono ?_)
      rintro e w12 ⟨rfl, h12⟩
      have E12 := Lib.hid h12
      clear h12 HN E11
      have HN := Lib.hid (E12.out.put (s' := some ([71, 89, 83, 49] ++ wideN Z 4 ++ p.set ++ D ++ l)) (q' := 0 + 4 + 6 + 8 + 32 + l.length) fun X hX => outR_any X w12 ab _ _ a1 c1 l hX (by omega) (HS7.out.below E12.out.below) (by omega))
      go_wp2_with fail
      (with_reducible refine HN.out.mono ?_)
      rintro e w13 ⟨rfl, h13⟩
      have E13 := Lib.hid h13
      clear h13 HN E12
      have HL : Hid ([71, 89, 83, 49] ++ wideN Z 4 ++ p.set ++ D ++ l = pkBytes p) := by
        show _ = _
        unfold pkBytes bytesN
        rw [← HLK.out, ← HDE.out, ← HZE.out]
      rw [HL.out] at E13
      obtain ⟨X13, hX13, _⟩ := E13.out.out
      have HEN := Lib.hid (end_ok X13 w13 ab _ _ hX13 (by omega))
      have HB13 : Hid (Below w.heap.size w w13) := HB7.out.trans (E13.out.below.mono HB7.out.size)
      clear hX13 E13 HL
      go_wp2_with fail
      (with_reducible refine HEN.out.mono ?_)
      rintro e w14 ⟨a2, c2, rfl, hs2, b14⟩
      have HS14 := Lib.hid hs2
      have HB14 : Hid (Below w.heap.size w w14) := HB13.out.trans (b14.mono HB13.out.size)
      clear hs2 b14 HEN HB13
      obtain ⟨PL, hPL⟩ : ∃ PL, PL = (pkBytes p).length := ⟨_, rfl⟩
      rw [← hPL]
      have HPLE := Lib.hid hPL
      clear hPL
      go_wp2_with fail
      go_ret2
      exact ⟨HB14.out, fun _ => ⟨a2, c2, by rw [← HPLE.out]; rfl, HS14.out⟩, fun h => absurd HOK.out h⟩
  · rw [decide_eq_false hpl] at HPL
    have HNO : Hid (¬ pkOk p) := fun ho => hpl (tell_ok HBP.out.okk ho).1
    clear hpl
    go_wp2_with (refine wpList_load_row rfl 100 _ rfl B rfl 100 AQ (0, 0) _ HWH.out Tryz.underlying100 rfl (by rw [HAS.out]; kernel_rfl) ?_)
    (with_reducible refine HPL.out.mono ?_)
    rintro e w2 ⟨rfl, b2⟩
    have HB2 : Hid (Below w.heap.size w w2) := HB.out.trans (b2.mono HB.out.size)
    clear b2 HPL
    go_wp2_with fail
    go_ret2
    exact ⟨HB2.out, fun ho => absurd ho HNO.out, fun _ => rfl⟩
end Go.Proofs.YtfgaohilpbocbaaGreatDoor
end

section
namespace Go.Proofs.YtfgaohilpbocbaaGreatDoor
open Go.ChangeShapes Go.WideShapes Go.ChangeAt Go.RowKit Go.Joins
set_option linter.unusedVariables false

/-- All that packets tell. -/
def allN (l : List Pk) : List Nat := (l.map fun p => kbN p.kind (pkBody p)).flatten
def costN (l : List Pk) : Nat := (l.map tellQ).sum
def nameOf (l : List Pk) : List Nat := (dgN (allN l)).take 8
theorem allN_next {l : List Pk} {k : Nat} (h : k < l.length) : allN (l.take (k + 1)) = allN (l.take k) ++ kbN l[k].kind (pkBody l[k]) := by
  unfold allN
  rw [List.take_succ_eq_append_getElem h, List.map_append, List.flatten_append]
  simp
theorem costN_next {l : List Pk} {k : Nat} (h : k < l.length) : costN (l.take (k + 1)) = costN (l.take k) + tellQ l[k] := by
  unfold costN
  rw [List.take_succ_eq_append_getElem h, List.map_append, List.sum_append]
  simp
theorem costN_le {l : List Pk} (k : Nat) : costN (l.take k) ≤ costN l := by
  unfold costN
  conv => rhs; rw [← List.take_append_drop k l, List.map_append, List.sum_append]
  omega
theorem costN_one {l : List Pk} {k : Nat} (h : k < l.length) : costN (l.take k) + tellQ l[k] ≤ costN l := by rw [← costN_next h]; exact costN_le _
theorem allN_len {l : List Pk} (h : ∀ p ∈ l, PkIn p ∧ pkOk p) : (allN l).length ≤ costN l := by
  induction l with
  | nil => simp [allN, costN]
  | cons p l ih =>
    have h1 := ih fun q hq => h q (by simp [hq])
    have h2 := tell_len (h p (by simp)).1 (h p (by simp)).2
    unfold allN costN at h1 ⊢
    simp only [List.map_cons, List.flatten_cons, List.length_append, List.sum_cons]
    omega
theorem nameOf_len (l : List Pk) : (nameOf l).length = 8 := by unfold nameOf; rw [List.length_take, dgN_len]; rfl
theorem nameOf_byte (l : List Pk) : IsByte (nameOf l) := fun n hn => dgN_byte _ n (List.mem_of_mem_take hn)
theorem arrayAt8 (b : Nat) : ∀ W, (Instr.arrayAt 64 (.slice (some ⟨b, 0, none⟩) 8 32)).run Tryz.prog W = .ok (.pointer (some ⟨b, 0, none⟩)) W := fun W => by kernel_rfl
def z8A : Array Value := #[.int .u8 0, .int .u8 0, .int .u8 0, .int .u8 0, .int .u8 0, .int .u8 0, .int .u8 0, .int .u8 0]
set_option maxRecDepth 1000000 in
set_option maxHeartbeats 8000000 in
theorem named_any (pa : Option Addr) (pc : Nat) (F : List Pw) (w : World) (hs : PkSl w pa pc F) (hok : ∀ f ∈ F, pkOk f.p) (hl : F.length ≤ 1000) (hq : costN (F.map (·.p)) ≤ 20000)
    (hnm : ∀ f ∈ F, f.p.file.name.length ≤ 20000) (hdt : ∀ f ∈ F, f.p.data.length ≤ 20000) (ht : Tabs w) :
    Calls Tryz.prog 108 #[.slice pa F.length pc] w fun e w' => e = .returned (.agg (rowArr 8 (vOf (nameOf (F.map (·.p)))))) ∧ Below w.heap.size w w' := by
  have mixed : Tryz.prog.follows .mixedOrders = true := by kernel_rfl
  have hlm := hs.lt
  have hb0 : Below w.heap.size w (w.alloc (.cells z8A 64)) := (Below.refl _ _).alloc (Nat.le_refl _) _
  have HB0 := Lib.hid hb0
  have HZ0 : Hid ((w.alloc (.cells z8A 64)).heap[w.heap.size]? = some (.cells z8A 64 (0, 0))) := heap_alloc_last w _
  have HS := Lib.hid (hs.below hb0)
  have HT := Lib.hid (ht.below hb0)
  have HOK := Lib.hid hok
  have HNM := Lib.hid hnm
  have HDT := Lib.hid hdt
  have HQ := Lib.hid hq
  obtain ⟨A3, hA3⟩ : ∃ A3, A3 = rowArr 8 (vOf (nameOf (F.map (·.p)))) := ⟨_, rfl⟩
  rw [← hA3]
  have HA3 := Lib.hid hA3
  clear hs hok hq hnm hdt ht hb0 hA3
  go_enter Tryz.func108, Tryz.ntmps108
  go_upto_region 2 with fail
  change Code.wp _ _ _ _ ((w.alloc (.cells z8A 64)).alloc (.cells outZ 239))
  obtain ⟨w1, hw1⟩ : ∃ w1, w1 = w.alloc (.cells z8A 64) := ⟨_, rfl⟩
  have hs1 : w1.heap.size = w.heap.size + 1 := by rw [hw1]; simp
  rw [← hw1] at HB0 HZ0 HS HT ⊢
  rw [← hs1]
  clear hw1
  have hE : EnSt w1 w1.heap.size (some []) 0 (w1.alloc (.cells outZ 239)) := ⟨⟨_, OutAt.zero w1, fun k hk => by have h2 : k = w1.heap.size := hk; omega⟩, (Below.refl _ _).alloc (Nat.le_refl _) _⟩
  have HE0 : Hid (EnSt w1 w1.heap.size (some (allN ((F.map (·.p)).take 0))) (costN ((F.map (·.p)).take 0)) (w1.alloc (.cells outZ 239))) := hE
  obtain ⟨R, hR⟩ : ∃ R, R = w.heap.size := ⟨_, rfl⟩
  have hwR : w.heap.size ≤ R := by omega
  have hRw : R < w1.heap.size := by omega
  rw [← hR] at HZ0 ⊢
  obtain ⟨tb, htb⟩ : ∃ tb, tb = w1.heap.size := ⟨_, rfl⟩
  rw [← htb] at HE0 ⊢
  generalize w1.alloc (.cells outZ 239) = w2 at *
  clear hE hs1 hR htb
  have hfl : (F.map (·.p)).length = F.length := by simp
  have HFL := Lib.hid hfl
  clear hfl
  go_wp2_with fail
  go_loopw [11] (fun i wr => ∃ k : Nat, k ≤ F.length ∧ i = .int .i64 k ∧ Hid (EnSt w1 tb (some (allN ((F.map (·.p)).take k))) (costN ((F.map (·.p)).take k)) wr)) (fun i _ => F.length - (intOf i).toNat)
  case atStart => exact ⟨0, by omega, rfl, HE0⟩
  case round =>
    obtain ⟨k, hk, rfl, HE⟩ := hrel
    clear HE0
    by_cases hlt : k < F.length
    · have hPk := (HS.out.below HE.out.below)
      obtain ⟨pb, off, rfl, hbl, hx⟩ := pks_one hPk hlt
      have hpk := hPk.pks _ (List.getElem_mem hlt)
      have hpk1 := HS.out.pks _ (List.getElem_mem hlt)
      have hok := HOK.out _ (List.getElem_mem hlt)
      have hnm := HNM.out _ (List.getElem_mem hlt)
      have hdt := HDT.out _ (List.getElem_mem hlt)
      have hlt2 : k < (F.map (·.p)).length := by rw [HFL.out]; exact hlt
      have hg : (F.map (·.p))[k] = (F[k]).p := by simp
      have hc1 := costN_one hlt2
      have hn1 := allN_next hlt2
      have hn2 := costN_next hlt2
      rw [hg] at hc1 hn1 hn2
      have hq := HQ.out
      obtain ⟨f, hf⟩ : ∃ f, f = F[k] := ⟨_, rfl⟩
      rw [← hf] at hx hpk hpk1 hok hnm hdt hc1 hn1 hn2
      have HXC := Lib.hid hx
      have HPK := Lib.hid hpk
      have HPK1 := Lib.hid hpk1
      have HN1 := Lib.hid hn1
      have HN2 := Lib.hid hn2
      have HOKF := Lib.hid hok
      obtain ⟨AQ, hAQ⟩ : ∃ AQ, AQ = rowArr 51 (pwV f) := ⟨_, rfl⟩
      have VA : Hid (rowArr 51 (pwV f) = AQ) := hAQ.symm
      have HAS : Hid (AQ.size = 51) := by show _ = _; rw [hAQ, rowArr_size]
      have HA1 : Hid (AQ.all (·.oneCell') = true) := by show _ = _; rw [hAQ]; exact oneCell_pk _ _ _ _ _
      have HALL : Hid (∀ c : Array Value, (wr.alloc (.cells c 100)).heap[wr.heap.size]? = some (.cells c 100 (0, 0))) := fun c => heap_alloc_last wr _
      have HALB : Hid (∀ c : Array Value, Below wr.heap.size wr (wr.alloc (.cells c 100))) := fun c => (Below.refl _ _).alloc (Nat.le_refl _) _
      have hcst : costN ((F.map (·.p)).take k) + tellQ f.p ≤ 20000 := by omega
      have HCST := Lib.hid hcst
      clear hx hpk hpk1 hok hf hAQ hg hc1 hn1 hn2 hPk hcst
      go_upto_region 5 with (first
        | (refine wpList_load_v (by rfl) 100 _ rfl pb (off + k * 51) 51 _ AQ VA.out rfl _ HXC.out Tryz.underlying100 rfl (by kernel_rfl) ?_)
        | (refine wpList_store_arr rfl 100 _ _ rfl wr.heap.size AQ rfl rfl 100 _ (HALL.out _) (by rw [HAS.out]; kernel_rfl) (by rw [HAS.out]; rfl) HA1.out ?_; intro w7 HC7 hf7; have HB67 : Hid (Below wr.heap.size wr w7) := (HALB.out _).trans (hf7.out.below (HALB.out _).size (fun k hk e => by omega)); clear hf7 HALL HALB))
      have HE7 := Lib.hid (HE.out.later HB67.out)
      have HP7 := Lib.hid (HPK.out.below HB67.out)
      obtain ⟨g, hgg⟩ : ∃ g, g = wr.heap.size := ⟨_, rfl⟩
      rw [← hgg] at HC7
      rw [← hgg]
      clear hgg HB67 HE HXC HPK
      have hq2 : 100 + f.p.file.name.length + 44 * f.p.sums.length + f.p.data.length ≤ 20000 := by have h1 := HCST.out; unfold tellQ at h1; omega
      have HTL : Hid (Calls Tryz.prog 138 #[.pointer (some ⟨tb, 0, none⟩), .agg AQ] w7 fun e w' => e = .returned (.tuple #[]) ∧ EnSt w1 tb (some (allN ((F.map (·.p)).take (k + 1)))) (costN ((F.map (·.p)).take (k + 1))) w') := by
        obtain ⟨X, h1, h2⟩ := HE7.out.out
        have := tell_any X w7 tb _ _ f.p f.sa f.sc f.da f.dc h1 HP7.out (fun e r hr hX => by
          have h3 := h2 _ hX
          rcases HPK1.out.sums.here with h | ⟨b', o', h, h4, _⟩
          · exact e h
          · rw [h] at hr; cases hr; have h5 : w1.heap.size ≤ b' := h3; omega) (fun e r hr hX => by
          have h3 := h2 _ hX
          have := HPK1.out.data.blk r hr e
          omega) (by have := HCST.out; omega) hnm hdt
        rw [show rowArr 51 (pkV f.p f.sa f.sc f.da f.dc) = AQ from VA.out] at this
        refine this.mono ?_
        rintro e w' ⟨rfl, X', o, hx, fr⟩
        have hbel := HE7.out.below
        refine ⟨rfl, ⟨X', ?_, fun j hj => ?_⟩, hbel.trans (fr.below hbel.size fun j hj hX => by have := h2 j hX; omega)⟩
        · rw [tell_addO, (tell_ok HPK1.out.okk HOKF.out).2] at o
          rw [HN1.out, HN2.out]
          exact o
        · rcases hx j hj with h3 | h3
          · exact h2 j h3
          · have := hbel.size; omega
      clear HE7 HP7 HN1 HN2 HOKF HCST hq2 HPK1
      go_wp2_with (first
        | (refine wpList_load_row rfl 100 _ rfl g rfl 100 AQ (0, 0) _ HC7.out Tryz.underlying100 rfl (by rw [HAS.out]; kernel_rfl) ?_)
        | (go_at_call 138; (with_reducible refine HTL.out.mono ?_); rintro e w8 ⟨rfl, hE8⟩; have HE8 := Lib.hid hE8; clear hE8))
      go_roundw
      case rel => exact ⟨k + 1, by omega, by go_num, HE8⟩
      case measure => simp [intOf]; omega
    · obtain rfl : k = F.length := by omega
      have hall : (F.map (·.p)).take F.length = F.map (·.p) := List.take_of_length_le (by rw [HFL.out]; exact Nat.le_refl _)
      rw [hall] at HE
      obtain ⟨X, h1, h2⟩ := HE.out.out
      have hq := HQ.out
      have hall2 : ∀ p ∈ F.map (·.p), PkIn p ∧ pkOk p := fun p hp => by
        obtain ⟨f, hf, rfl⟩ := List.mem_map.1 hp
        exact ⟨(HS.out.pks f hf).okk, HOK.out f hf⟩
      have hlen := allN_len hall2
      obtain ⟨T, hT⟩ : ∃ T, T = allN (F.map (·.p)) := ⟨_, rfl⟩
      obtain ⟨D, hD⟩ : ∃ D, D = dgN T := ⟨_, rfl⟩
      have hDl := dgN_len T
      have hDb := dgN_byte T
      have hnn : nameOf (F.map (·.p)) = D.take 8 := by unfold nameOf; rw [hD, hT]
      rw [← hT] at h1 hlen
      rw [← hD] at hDl hDb
      have HNN := Lib.hid hnn
      have HEN := Lib.hid (end_ok X wr tb T _ h1 (by omega))
      have HBW := Lib.hid HE.out.below
      have HDE := Lib.hid hD
      have HDL := Lib.hid hDl
      have HDB := Lib.hid hDb
      have hT6 : T.length ≤ 1000000 := by omega
      clear hall HE h1 h2 hall2 hlen hT hD hDl hDb hnn HS HOK HNM HDT HQ
      go_upto_region 8 with (go_at_call 139; (with_reducible refine HEN.out.mono ?_); rintro e w3 ⟨a1, c1, rfl, hs3, hb3⟩; have HS3 := Lib.hid hs3; have HB3 := Lib.hid (HBW.out.trans (hb3.mono HBW.out.size)); clear hs3 hb3)
      have hlm3 := HS3.out.lt
      have hcm3 : c1 ≤ 9223372036854775807 := by have := HS3.out.most; unfold maxLen at this; omega
      have HDG := Lib.hid (digest_sl a1 c1 T w3 HS3.out hT6 (HT.out.below HB3.out))
      rw [← HDE.out] at HDG
      clear HEN HBW
      go_upto_region 9 with (first
        | (go_at_call 57; (with_reducible refine HDG.out.mono ?_); rintro e w6 ⟨rfl, b6⟩; have HB6 := Lib.hid (HB3.out.trans (b6.mono HB3.out.size)); clear b6 HDG; have HALL : Hid (∀ c : Array Value, (w6.alloc (.cells c 50)).heap[w6.heap.size]? = some (.cells c 50 (0, 0))) := (fun c => heap_alloc_last w6 _); have HALB : Hid (∀ c : Array Value, Below w6.heap.size w6 (w6.alloc (.cells c 50))) := (fun c => (Below.refl _ _).alloc (Nat.le_refl _) _))
        | (refine wpList_store_arr rfl 50 _ _ rfl w6.heap.size (rowArr 32 (vOf D)) rfl rfl 50 _ (HALL.out _) (by rw [rowArr_size]; kernel_rfl) (by rw [rowArr_size]; rfl) (oneCell_v D 32) ?_; intro w7 HC7 hf7; have HB67 : Hid (Below w6.heap.size w6 w7) := (HALB.out _).trans (hf7.out.below (HALB.out _).size (fun k hk e => by omega)); clear hf7 HALL HALB))
      obtain ⟨db, hdb⟩ : ∃ db, db = w6.heap.size := ⟨_, rfl⟩
      rw [← hdb] at HC7 ⊢
      have HB7 := Lib.hid (HB6.out.trans (HB67.out.mono HB6.out.size))
      have HR7 : Hid (w7.heap[R]? = some (.cells z8A 64 (0, 0))) := (HB7.out.block R hRw).trans HZ0.out
      have HC8 : Hid (∀ j, j < 8 → w7.cell? ⟨db, 0 + j, none⟩ = some (vOf (D.take 8) j)) := fun j hj => by
        rw [cell_of_block HC7.out, Nat.zero_add]
        have hd := HDL.out
        simp only [rowArr, List.getElem?_toArray, List.getElem?_map, List.getElem?_range (show j < 32 by omega), Option.map_some, vOf, List.getD_eq_getElem?_getD, List.getElem?_take, if_pos hj]
      have V3 : Hid (rowArr 8 (vOf (D.take 8)) = A3) := by show _ = _; rw [HA3.out, HNN.out]
      have HA3s : Hid (A3.size = 8) := by show _ = _; rw [← V3.out, rowArr_size]
      have HA31 : Hid (A3.all (·.oneCell') = true) := by show _ = _; rw [← V3.out]; exact oneCell_v _ 8
      have HBW0 : Hid (Below w.heap.size w w7) := HB0.out.trans (HB7.out.mono HB0.out.size)
      have hAA := arrayAt8 db
      clear hdb HB67 HB6 HB3
      go_wp2_with (first
        | (refine wpList_load_v (by rfl) 64 _ rfl db 0 8 _ A3 V3.out rfl _ HC8.out Tryz.underlying64 rfl (by kernel_rfl) ?_)
        | (refine wpList_store_arr rfl 64 _ _ rfl R A3 rfl rfl 64 _ HR7.out (by rw [HA3s.out]; kernel_rfl) (by rw [HA3s.out]; rfl) HA31.out ?_; intro w9 HC9 hf9; have HB9 : Hid (Below w.heap.size w w9) := HBW0.out.trans (hf9.out.below HBW0.out.size (fun k hk e => by omega)); clear hf9))
      exact bodyPost_ret (v := .agg A3) (results_cell_row rfl _ _ R 64 A3 (0, 0) _ rfl HC9.out Tryz.underlying64 rfl (by rw [HA3s.out]; kernel_rfl)) rfl ⟨rfl, HB9.out⟩
end Go.Proofs.YtfgaohilpbocbaaGreatDoor
end

section
namespace Go.Proofs.YtfgaohilpbocbaaGreatDoor
open Go.Shelf Go.Proofs
def lay_splitB_ren : Go.Shelf.Ren := ⟨fun | 146 => 175 | 221 => 203 | 268 => 224 | 138 => 225 | 143 => 226 | 195 => 237 | 197 => 238 | 218 => 239 | 219 => 240 | 260 => 245 | 217 => 246 | 225 => 247 | 224 => 248 | 267 => 249 | 266 => 252 | 314 => 253 | n => n, fun | 9 => 9 | 31 => 32 | 3 => 3 | 4 => 4 | 0 => 0 | 105 => 321 | 21 => 21 | 5 => 5 | 46 => 173 | 119 => 328 | 139 => 331 | 138 => 330 | 146 => 332 | 51 => 49 | n => n, fun | 1 => 3 | 3 => 4 | 4 => 5 | n => n⟩
theorem lay_splitB : Go.Proofs.LaysM.n146 Tryz.prog lay_splitB_ren := {
  mixed := by kernel_rfl
  f138 := Tryz.func225.trans (congrArg some (by kernel_rfl))
  f143 := Tryz.func226.trans (congrArg some (by kernel_rfl))
  f146 := Tryz.func175.trans (congrArg some (by kernel_rfl))
  f195 := Tryz.func237.trans (congrArg some (by kernel_rfl))
  f197 := Tryz.func238.trans (congrArg some (by kernel_rfl))
  f217 := Tryz.func246.trans (congrArg some (by kernel_rfl))
  f218 := Tryz.func239.trans (congrArg some (by kernel_rfl))
  f219 := Tryz.func240.trans (congrArg some (by kernel_rfl))
  f221 := Tryz.func203.trans (congrArg some (by kernel_rfl))
  f224 := Tryz.func248.trans (congrArg some (by kernel_rfl))
  f225 := Tryz.func247.trans (congrArg some (by kernel_rfl))
  f260 := Tryz.func245.trans (congrArg some (by kernel_rfl))
  f266 := Tryz.func252.trans (congrArg some (by kernel_rfl))
  f267 := Tryz.func249.trans (congrArg some (by kernel_rfl))
  f268 := Tryz.func224.trans (congrArg some (by kernel_rfl))
  f314 := Tryz.func253.trans (congrArg some (by kernel_rfl))
  t0 := Tryz.underlying0
  a0 := Tryz.isAgg0
  z0 := Tryz.sizeOf0
  v0 := Tryz.zeroValue0
  t3 := Tryz.underlying3
  a3 := Tryz.isAgg3
  z3 := Tryz.sizeOf3
  v3 := Tryz.zeroValue3
  t4 := Tryz.underlying4
  a4 := Tryz.isAgg4
  z4 := Tryz.sizeOf4
  v4 := Tryz.zeroValue4
  t5 := Tryz.underlying5
  a5 := Tryz.isAgg5
  z5 := Tryz.sizeOf5
  v5 := Tryz.zeroValue5
  t9 := Tryz.underlying9
  a9 := Tryz.isAgg9
  z9 := Tryz.sizeOf9
  v9 := Tryz.zeroValue9
  t21 := Tryz.underlying21
  a21 := Tryz.isAgg21
  z21 := Tryz.sizeOf21
  v21 := Tryz.zeroValue21
  t31 := Tryz.underlying32
  a31 := Tryz.isAgg32
  z31 := Tryz.sizeOf32
  v31 := Tryz.zeroValue32
  t46 := Tryz.underlying173
  a46 := Tryz.isAgg173
  z46 := Tryz.sizeOf173
  v46 := Tryz.zeroValue173
  t51 := Tryz.underlying49
  a51 := Tryz.isAgg49
  z51 := Tryz.sizeOf49
  v51 := Tryz.zeroValue49
  t105 := Tryz.underlying321
  a105 := Tryz.isAgg321
  z105 := Tryz.sizeOf321
  v105 := Tryz.zeroValue321
  t119 := Tryz.underlying328
  a119 := Tryz.isAgg328
  z119 := Tryz.sizeOf328
  t138 := Tryz.underlying330
  a138 := Tryz.isAgg330
  z138 := Tryz.sizeOf330
  v138 := Tryz.zeroValue330
  t139 := Tryz.underlying331
  a139 := Tryz.isAgg331
  z139 := Tryz.sizeOf331
  v139 := Tryz.zeroValue331
  t146 := Tryz.underlying332
  a146 := Tryz.isAgg332
  z146 := Tryz.sizeOf332
  v146 := Tryz.zeroValue332
  g1 := by kernel_rfl
  g3 := by kernel_rfl
  g4 := by kernel_rfl
  i0 := by kernel_rfl
  i3 := by kernel_rfl
  i4 := by kernel_rfl
  i5 := by kernel_rfl
  i9 := by kernel_rfl
  i21 := by kernel_rfl
  i31 := by kernel_rfl
  i46 := by kernel_rfl
  i51 := by kernel_rfl
  i105 := by kernel_rfl
  i138 := by kernel_rfl
  i139 := by kernel_rfl
  i146 := by kernel_rfl
  m1 := by kernel_rfl
  s1_3 := fun w h => Go.Proofs.cell_of_shapedOpen_int (zero := #[.int .i64 0]) (t := 3) h (of_decide_eq_true (by kernel_rfl)) (by kernel_rfl) rfl (by kernel_rfl) (by kernel_rfl) Tryz.underlying3
  m3 := by kernel_rfl
  m4 := by kernel_rfl }
def lay_suffixB_ren : Go.Shelf.Ren := ⟨fun | 100 => 173 | 207 => 202 | n => n, fun | 9 => 9 | 4 => 4 | 3 => 3 | n => n, fun | n => n⟩
theorem lay_suffixB : Go.Proofs.Lays.n100 Tryz.prog lay_suffixB_ren := {
  mixed := by kernel_rfl
  f100 := Tryz.func173.trans (congrArg some (by kernel_rfl))
  f207 := Tryz.func202.trans (congrArg some (by kernel_rfl))
  t3 := Tryz.underlying3
  a3 := Tryz.isAgg3
  z3 := Tryz.sizeOf3
  v3 := Tryz.zeroValue3
  t4 := Tryz.underlying4
  a4 := Tryz.isAgg4
  z4 := Tryz.sizeOf4
  v4 := Tryz.zeroValue4
  t9 := Tryz.underlying9
  a9 := Tryz.isAgg9
  z9 := Tryz.sizeOf9
  v9 := Tryz.zeroValue9 }
end Go.Proofs.YtfgaohilpbocbaaGreatDoor
end

section
namespace Go.Proofs.YtfgaohilpbocbaaGreatDoor
open Go.ChangeShapes Go.WideShapes Go.ChangeAt Go.RowKit Go.Joins
set_option linter.unusedVariables false

/-- The library's variable that strings.Split reads. -/
structure Mx (w : World) : Prop where
  max : ∃ m, w.cell? ⟨3, 0, none⟩ = some (.int .i64 m)
theorem lt_cell {w : World} {a : Addr} {v : Value} (h : w.cell? a = some v) : a.block < w.heap.size := by
  rcases Nat.lt_or_ge a.block w.heap.size with h1 | h1
  · exact h1
  · simp [World.cell?, Array.getElem?_eq_none h1] at h
theorem Mx.below {w w' : World} (h : Mx w) (hb : Below w.heap.size w w') : Mx w' := by
  obtain ⟨m, hm⟩ := h.max
  exact ⟨m, (hb.cell (lt_cell hm)).trans hm⟩
theorem Mx.of_shape {w : World} (h : w.ShapedOpen Tryz.prog) : Mx w := ⟨lay_splitB.s1_3 w h⟩

set_option maxRecDepth 100000 in
theorem letter_any (c : Nat) (hc : c < 256) (w : World) :
    Calls Tryz.prog 174 #[.int .u8 (c : Int)] w fun e w' => e = .returned (.bool (letB c || decide (c = 47))) ∧ w' = w := by
  obtain ⟨r, hr⟩ : ∃ r, r = (letB c || decide (c = 47)) := ⟨_, rfl⟩
  rw [← hr]
  unfold letB at hr
  have H : c < 45 ∨ c = 45 ∨ c = 46 ∨ c = 47 ∨ (48 ≤ c ∧ c ≤ 57) ∨ (58 ≤ c ∧ c ≤ 94) ∨ c = 95 ∨ c = 96 ∨ (97 ≤ c ∧ c ≤ 122) ∨ 123 ≤ c := by omega
  rcases H with h | h | h | h | h | h | h | h | h | h
  all_goals
    have HR : Hid (r = decide ((97 ≤ c ∧ c ≤ 122) ∨ (48 ≤ c ∧ c ≤ 57) ∨ (45 ≤ c ∧ c ≤ 47) ∨ c = 95)) := by
      show _ = _
      rw [hr]
      simp only [← Bool.decide_and, ← Bool.decide_or]
      rw [decide_eq_decide]
      omega
    clear hr
    go_enter Tryz.func174, Tryz.ntmps174
    go_wp2_with fail
    go_ret
    refine ⟨ret_bool ?_, rfl⟩
    first | exact HR.out.symm | (rw [HR.out]; first | (symm; exact decide_eq_true (by omega)) | (symm; exact decide_eq_false (by omega)) | (rw [Bool.eq_iff_iff]; simp; omega))
end Go.Proofs.YtfgaohilpbocbaaGreatDoor
end

section
namespace Go.Proofs.YtfgaohilpbocbaaGreatDoor
open Go.ChangeShapes Go.WideShapes Go.ChangeAt Go.RowKit Go.Joins
set_option linter.unusedVariables false

theorem str_index (s : ByteArray) (k : Nat) (hk : k < s.size) : ∃ c : Nat, c < 256 ∧ (∀ W, (Instr.index 9 (.string s) (.int .i64 (k : Int))).run Tryz.prog W = .ok (.int .u8 (c : Int)) W) ∧ ∃ x : UInt8, x.toNat = c ∧ s.data.toList[k]? = some x := by
  have hl : s.data.toList.length = s.size := Array.length_toList
  refine ⟨(s[k]'hk).toNat, UInt8.toNat_lt _, fun W => ?_, s[k]'hk, rfl, ?_⟩
  · rw [run_index_string (h := Tryz.underlying9), dif_pos ⟨by omega, by omega⟩]
    simp
  · rw [List.getElem?_eq_getElem (by omega)]
    rfl
theorem str_some {s : ByteArray} (h : ¬ s.size = 0) : s.toList.isEmpty = false := by
  rw [ByteArray.toList_eq]
  cases hl : s.data.toList with
  | nil => exact absurd (show s.data.size = 0 by rw [← Array.length_toList, hl]; rfl) h
  | cons _ _ => rfl
/-- strings.Split at a stroke: a new row of the parts. -/
theorem split_any (s : ByteArray) (hs : s.size < 4294967281) (w : World) (hm : Mx w) :
    Calls Tryz.prog 175 #[.string s, .string ⟨#[47]⟩] w fun e w' => ∃ B, e = .returned (.slice (some ⟨B, 0, none⟩) (partsN s.data.toList).length (partsN s.data.toList).length) ∧
      (∀ k, k < (partsN s.data.toList).length → ∃ p : ByteArray, w'.cell? ⟨B, k, none⟩ = some (.string p) ∧ (partsN s.data.toList)[k]? = some p.data.toList) ∧ Below w.heap.size w w' := by
  obtain ⟨m, hm⟩ := hm.max
  refine (Any.strings_Split { lay_splitB with } lay_splitB.i9 s ⟨#[47]⟩ m w hs hm (by decide)).mono ?_
  rintro e w' ⟨rfl, rfl⟩
  rw [count_parts]
  refine ⟨w.heap.size, rfl, fun k hk => ?_, (Below.refl _ _).alloc (Nat.le_refl _) _⟩
  rw [← split_parts] at hk ⊢
  rw [List.length_map] at hk
  refine ⟨(Lib.splitB ⟨#[47]⟩ 0 (Lib.countB s ⟨#[47]⟩) s)[k], ?_, ?_⟩
  · rw [World.cell?_alloc_new]
    simp [hk]
  · rw [List.getElem?_map, List.getElem?_eq_getElem hk]; rfl
set_option maxRecDepth 100000 in
set_option maxHeartbeats 4000000 in
theorem name_any (s : ByteArray) (hs : s.size ≤ 9223372036854775807) (w : World) (hm : Mx w) :
    Calls Tryz.prog 131 #[.string s] w fun e w' => e = .returned (.bool (nameB s.data.toList)) ∧ Below w.heap.size w w' := by
  have hl : s.data.toList.length = s.size := Array.length_toList
  obtain ⟨l, hL⟩ : ∃ l, l = s.data.toList := ⟨_, rfl⟩
  obtain ⟨r, hr⟩ : ∃ r, r = nameB l := ⟨_, rfl⟩
  rw [← hL] at hl
  rw [← hL, ← hr]
  have HB0 : Hid (Below w.heap.size w w) := Below.refl _ _
  have HM := Lib.hid hm
  clear hm
  by_cases h0 : s.size = 0
  · have hR : Hid (r = false) := by
      show _ = _
      obtain rfl : l = [] := List.length_eq_zero_iff.1 (by omega)
      rw [hr, nameB_nil]
    clear hr
    have e0 : s = ByteArray.empty := by
      apply ByteArray.ext
      apply Array.ext'
      rw [← hL]
      simpa using List.length_eq_zero_iff.1 (by omega : l.length = 0)
    subst e0
    go_enter Tryz.func131, Tryz.ntmps131
    go_wp2_with fail
    go_ret
    exact ⟨ret_bool hR.out.symm, HB0.out⟩
  have ne : s.toList.isEmpty = false := str_some h0
  have ne2 : ¬ s.toList = [] := by intro e; rw [e] at ne; cases ne
  by_cases h1 : 40 < s.size
  · have hR : Hid (r = false) := by
      show _ = _
      rw [hr]
      cases e : nameB l
      · rfl
      · have := ((nameB_iff l).1 e).1; omega
    clear hr
    have d1 : decide ((40 : Int) < (s.size : Int)) = true := decide_eq_true (by omega)
    go_enter Tryz.func131, Tryz.ntmps131
    go_wp2_with fail
    go_ret
    exact ⟨ret_bool hR.out.symm, HB0.out⟩
  have d1 : decide ((40 : Int) < (s.size : Int)) = false := decide_eq_false (by omega)
  have HS : Hid (∀ w, Calls Tryz.prog 173 #[.string s, .string ⟨#[46, 103, 121, 115]⟩] w fun e w' => e = .returned (.bool (Lib.hasSuffix l [46, 103, 121, 115])) ∧ w' = w) := fun w => by
    rw [hL]
    exact Any.strings_HasSuffix lay_suffixB s ⟨#[46, 103, 121, 115]⟩ w hs
  have HI : Hid (r = true ↔ l.length ≤ 40 ∧ Lib.hasSuffix l [46, 103, 121, 115] = false ∧ (∀ c ∈ l, letB c.toNat = true ∨ c.toNat = 47) ∧ (∀ p ∈ partsN l, partB p = true) ∧ (partsN l).head? ≠ some [111, 108, 100] ∧ (partsN l).head? ≠ some [116, 109, 112]) := by
    show _ ↔ _
    rw [hr]; exact nameB_iff l
  obtain ⟨q, hq⟩ : ∃ q, q = Lib.hasSuffix l [46, 103, 121, 115] := ⟨_, rfl⟩
  rw [← hq] at HS HI
  clear hq hr
  cases q
  · go_enter Tryz.func131, Tryz.ntmps131
    go_upto_region 3 with (go_at_call 173; refine (HS.out _).mono ?_; rintro e w' ⟨rfl, hw⟩; obtain rfl := hw.symm)
    clear HS
    have hz : s.size ≤ 40 := by omega
    have HL : Hid (∀ k, k < s.size → ∃ c : Nat, c < 256 ∧ (∀ W, (Instr.index 9 (.string s) (.int .i64 (k : Int))).run Tryz.prog W = .ok (.int .u8 (c : Int)) W) ∧ ∃ x : UInt8, x.toNat = c ∧ l[k]? = some x) := by
      show ∀ _, _
      rw [hL]; exact str_index s
    have HP : Hid (l.length = s.size ∧ l = s.data.toList) := ⟨hl, hL⟩
    clear hl hL h1 hs
    have HK0 : Hid (∀ c ∈ l.take 0, letB c.toNat = true ∨ c.toNat = 47) := fun c h => by simp at h
    go_wp2_with fail
    go_loopw [20] (fun i wr => ∃ k : Nat, k ≤ s.size ∧ i = .int .i64 k ∧ Hid (∀ c ∈ l.take k, letB c.toNat = true ∨ c.toNat = 47) ∧ Hid (Below w.heap.size w wr)) (fun i _ => s.size - (intOf i).toNat)
    case atStart => exact ⟨0, by omega, rfl, HK0, HB0⟩
    case round =>
      obtain ⟨k, hk, rfl, HK, HB⟩ := hrel
      clear HB0 HK0
      by_cases hlt : k < s.size
      · obtain ⟨c, hc, hix, x, hx, hxk⟩ := HL.out k hlt
        have hA := letter_any c hc
        have HN : Hid ((letB c || decide (c = 47)) = true → ∀ c ∈ l.take (k + 1), letB c.toNat = true ∨ c.toNat = 47) := fun h c hc => by
          obtain ⟨hkl, e⟩ := List.getElem?_eq_some_iff.1 hxk
          rw [List.take_succ_eq_append_getElem hkl] at hc
          rcases List.mem_append.1 hc with hc | hc
          · exact HK.out c hc
          · obtain rfl : c = x := by rw [← e]; simpa using hc
            rw [hx]
            simpa using h
        have HF : Hid ((letB c || decide (c = 47)) = false → r = false) := fun h => by
          cases e : r
          · rfl
          · have := (HI.out.1 e).2.2.1 x (List.mem_of_getElem? hxk)
            rw [hx] at this
            simp at h
            rcases this with h1 | h1
            · rw [h1] at h; cases h.1
            · exact absurd h1 h.2
        have HA := Lib.hid hA
        clear hA hxk hx HK
        obtain ⟨q, hq⟩ : ∃ q, q = (letB c || decide (c = 47)) := ⟨_, rfl⟩
        rw [← hq] at HA HN HF
        clear hq
        cases q
        · have HF2 := Lib.hid (HF.out rfl)
          go_wp2_with (go_at_call 174; refine (HA.out _).mono ?_; rintro e w' ⟨rfl, hw⟩; obtain rfl := hw.symm)
          go_ret
          exact ⟨ret_bool HF2.out.symm, HB.out⟩
        · have HN2 := Lib.hid (HN.out rfl)
          go_wp2_with (go_at_call 174; refine (HA.out _).mono ?_; rintro e w' ⟨rfl, hw⟩; obtain rfl := hw.symm)
          go_roundw
          case rel => exact ⟨k + 1, by omega, by go_num, HN2, HB⟩
          case measure => simp [intOf]; omega
      · obtain rfl : k = s.size := by omega
        have HG : Hid (∀ c ∈ l, letB c.toNat = true ∨ c.toNat = 47) := fun c hc => HK.out c (by rw [List.take_of_length_le (by rw [HP.out.1]; exact Nat.le_refl _)]; exact hc)
        clear HK HL
        have HSp : Hid (∀ w, Mx w → Calls Tryz.prog 175 #[.string s, .string ⟨#[47]⟩] w fun e w' => ∃ B, e = .returned (.slice (some ⟨B, 0, none⟩) (partsN l).length (partsN l).length) ∧
            (∀ k, k < (partsN l).length → ∃ p : ByteArray, w'.cell? ⟨B, k, none⟩ = some (.string p) ∧ (partsN l)[k]? = some p.data.toList) ∧ Below w.heap.size w w') := by
          show ∀ _, _
          rw [HP.out.2]
          exact fun w hm => split_any s (by omega) w hm
        have HM1 := Lib.hid (HM.out.below HB.out)
        obtain ⟨P, hPe⟩ : ∃ P, P = partsN l := ⟨_, rfl⟩
        have hP0 : P ≠ [] := by rw [hPe]; exact partsN_ne l
        have hPl : P.length ≤ 41 := by rw [hPe]; have := partsN_len l; have := HP.out.1; omega
        rw [← hPe] at HSp HI
        clear hPe HM
        obtain ⟨n, hn⟩ : ∃ n, n = P.length := ⟨_, rfl⟩
        rw [← hn] at HSp
        have hn0 : 0 < n := by rw [hn]; exact List.length_pos_iff.2 hP0
        have hn41 : n ≤ 41 := by omega
        have HnP := Lib.hid hn
        clear hlt hk hn hPl
        go_upto_region 10 with (go_at_call 175; refine (HSp.out _ HM1.out).mono ?_; rintro e w1 ⟨B, rfl, hcell, hb1⟩)
        have HC0 : Hid (∀ k, k < n → ∃ p : ByteArray, w1.cell? ⟨B, k, none⟩ = some (.string p) ∧ P[k]? = some p.data.toList) := hcell
        have HB1 : Hid (Below w.heap.size w w1) := HB.out.trans (hb1.mono HB.out.size)
        have HQ0 : Hid (∀ p ∈ P.take 0, partB p = true) := fun p h => by simp at h
        clear hcell hb1 HB HM1 HSp
        go_wp2_with fail
        go_loopw [33] (fun i wr => ∃ k : Nat, k ≤ n ∧ i = .int .i64 k ∧ Hid (∀ k, k < n → ∃ p : ByteArray, wr.cell? ⟨B, k, none⟩ = some (.string p) ∧ P[k]? = some p.data.toList) ∧ Hid (∀ p ∈ P.take k, partB p = true) ∧ Hid (Below w.heap.size w wr)) (fun i _ => n - (intOf i).toNat)
        case atStart => exact ⟨0, by omega, rfl, HC0, HQ0, HB1⟩
        case round =>
          obtain ⟨k, hk, rfl, HC, HQ, HB⟩ := hrel
          clear HC0 HQ0 HB1
          by_cases hlt : k < n
          · obtain ⟨p, hc, hpk⟩ := HC.out k hlt
            have hpl : p.toList = p.data.toList := ByteArray.toList_eq p
            obtain ⟨y, hy⟩ : ∃ y, y = p.toList := ⟨_, rfl⟩
            have HF : Hid (partB y = false → r = false) := fun h => by
              cases e : r
              · rfl
              · have := (HI.out.1 e).2.2.2.1 p.data.toList (List.mem_of_getElem? hpk)
                rw [← hpl, ← hy, h] at this
                cases this
            have HN : Hid (partB y = true → ∀ p ∈ P.take (k + 1), partB p = true) := fun h q hq => by
              obtain ⟨hkl, e⟩ := List.getElem?_eq_some_iff.1 hpk
              rw [List.take_succ_eq_append_getElem hkl] at hq
              rcases List.mem_append.1 hq with hq | hq
              · exact HQ.out q hq
              · obtain rfl : q = y := by rw [hy, hpl, ← e]; simpa using hq
                exact h
            have HY := Lib.hid hy
            clear hpk hpl hy HQ
            by_cases c1 : y = []
            · have HF2 := Lib.hid (HF.out (by rw [c1]; rfl))
              clear HF HN
              have d1 : p.toList.isEmpty = true := by rw [← HY.out, c1]; rfl
              have d2 : p.toList = [] := by rw [← HY.out, c1]
              clear c1 HY
              go_wp2_with fail
              go_ret
              exact ⟨ret_bool HF2.out.symm, HB.out⟩
            have n1 : p.toList.isEmpty = false := by rw [← HY.out]; cases y with | nil => exact absurd rfl c1 | cons _ _ => rfl
            have n2 : ¬ p.toList = [] := by rw [← HY.out]; exact c1
            by_cases c2 : y = [46]
            · have HF2 := Lib.hid (HF.out (by rw [c2]; rfl))
              clear HF HN
              have d1 : (p.toList == [46]) = true := by rw [← HY.out, c2]; rfl
              have d2 : p.toList = [46] := by rw [← HY.out, c2]
              clear c2 c1 HY
              go_wp2_with fail
              go_ret
              exact ⟨ret_bool HF2.out.symm, HB.out⟩
            have n3 : (p.toList == [46]) = false := by rw [← HY.out]; simpa using c2
            have n4 : ¬ p.toList = [46] := by rw [← HY.out]; exact c2
            by_cases c3 : y = [46, 46]
            · have HF2 := Lib.hid (HF.out (by rw [c3]; rfl))
              clear HF HN
              have d1 : (p.toList == [46, 46]) = true := by rw [← HY.out, c3]; rfl
              have d2 : p.toList = [46, 46] := by rw [← HY.out, c3]
              clear c3 c2 c1 HY n4 n2
              go_wp2_with fail
              go_ret
              exact ⟨ret_bool HF2.out.symm, HB.out⟩
            have n5 : (p.toList == [46, 46]) = false := by rw [← HY.out]; simpa using c3
            have n6 : ¬ p.toList = [46, 46] := by rw [← HY.out]; exact c3
            have HN2 := Lib.hid (HN.out (by unfold partB; simp [c1, c2, c3]))
            clear HF HN c1 c2 c3 HY
            go_wp2_with fail
            go_roundw
            case rel => exact ⟨k + 1, by omega, by go_num, HC, HN2, HB⟩
            case measure => simp [intOf]; omega
          · obtain rfl : k = n := by omega
            have HR : Hid (P.head? ≠ some [111, 108, 100] → P.head? ≠ some [116, 109, 112] → r = true) := fun h1 h2 => by
              refine HI.out.2 ⟨by have := HP.out.1; omega, trivial, HG.out, fun p hp => HQ.out p ?_, h1, h2⟩
              rw [List.take_of_length_le (by rw [HnP.out]; exact Nat.le_refl _)]; exact hp
            have HR1 : Hid (P.head? = some [111, 108, 100] → r = false) := fun h => by
              cases e : r
              · rfl
              · exact absurd h (HI.out.1 e).2.2.2.2.1
            have HR2 : Hid (P.head? = some [116, 109, 112] → r = false) := fun h => by
              cases e : r
              · rfl
              · exact absurd h (HI.out.1 e).2.2.2.2.2
            obtain ⟨p, hc, hpk⟩ := HC.out 0 hn0
            have hpl : p.toList = p.data.toList := ByteArray.toList_eq p
            have hh : P.head? = some p.toList := by rw [hpl, ← hpk, List.head?_eq_getElem?]
            rw [hh] at HR HR1 HR2
            clear hh hpl hpk HI HG HP HQ HC
            by_cases c1 : p.toList = [111, 108, 100]
            · have HF2 := Lib.hid (HR1.out (by rw [c1]))
              clear HR HR1 HR2
              have d1 : (p.toList == [111, 108, 100]) = true := by rw [c1]; rfl
              go_wp2_with fail
              go_ret
              exact ⟨ret_bool HF2.out.symm, HB.out⟩
            have n1 : (p.toList == [111, 108, 100]) = false := by simpa using c1
            by_cases c2 : p.toList = [116, 109, 112]
            · have HF2 := Lib.hid (HR2.out (by rw [c2]))
              clear HR HR1 HR2
              have d1 : (p.toList == [116, 109, 112]) = true := by rw [c2]; rfl
              go_wp2_with fail
              go_ret
              exact ⟨ret_bool HF2.out.symm, HB.out⟩
            have n2 : (p.toList == [116, 109, 112]) = false := by simpa using c2
            have HF2 := Lib.hid (HR.out (by simpa using c1) (by simpa using c2))
            clear HR HR1 HR2
            go_wp2_with fail
            go_ret
            exact ⟨ret_bool HF2.out.symm, HB.out⟩
  · have hR : Hid (r = false) := by
      show _ = _
      cases e : r
      · rfl
      · have := (HI.out.1 e).2.1; cases this
    clear HI
    go_enter Tryz.func131, Tryz.ntmps131
    go_wp2_with (go_at_call 173; refine (HS.out _).mono ?_; rintro e w' ⟨rfl, rfl⟩)
    go_ret
    exact ⟨ret_bool hR.out.symm, HB0.out⟩
end Go.Proofs.YtfgaohilpbocbaaGreatDoor
end
