/-
  Package packet: Encode.
  Layer 14's law function body.
  Layer 14's law function body.
-/
import Derived.Test.YthpfjgbhacdpgaaDoorMg20
section
namespace Go.Proofs.YthpfjgbhacdpgaaDoor
open Go.ChangeShapes Go.WideShapes Go.ChangeAt Go.RowKit Go.Joins
set_option linter.unusedVariables false

def EncPost (p : Pk) (w : World) (e : Ending) (w' : World) : Prop :=
  Below w.heap.size w w' ∧ (pkOk p → ∃ a c, e = .returned (.tuple #[.slice a (pkBytes p).length c, .int .i64 0]) ∧ Sl w' a c (pkBytes p)) ∧ (¬ pkOk p → e = .returned (.tuple #[.slice none 0 0, .int .i64 1]))
/-- An Out of one's own, all of it newer than w9. -/
structure EnSt (w9 : World) (b : Nat) (s : Option (List Nat)) (q : Nat) (wr : World) : Prop where
  out : ∃ X, OutAt X wr b s q ∧ ∀ k, X k → w9.heap.size ≤ k
  below : Below w9.heap.size w9 wr
theorem EnSt.put {w9 : World} {b : Nat} {s s' : Option (List Nat)} {q q' : Nat} {wr : World} (h : EnSt w9 b s q wr) {f : FuncId} {args : Array Value}
    (hc : ∀ X, OutAt X wr b s q → Calls Tryd.prog f args wr (OutPost OutAt X wr b s' q')) : Calls Tryd.prog f args wr fun e w' => e = .returned (.tuple #[]) ∧ EnSt w9 b s' q' w' := by
  obtain ⟨X, h1, h2⟩ := h.out
  refine (hc X h1).mono ?_
  rintro e w' ⟨rfl, X', o, hx, fr⟩
  refine ⟨rfl, ⟨X', o, fun k hk => ?_⟩, h.below.trans (fr.below h.below.size fun k hk hX => by have := h2 k hX; omega)⟩
  rcases hx k hk with h3 | h3
  · exact h2 k h3
  · have := h.below.size
    omega
theorem EnSt.later {w9 : World} {b : Nat} {s : Option (List Nat)} {q : Nat} {wr w' : World} (h : EnSt w9 b s q wr) (k : Below wr.heap.size wr w') : EnSt w9 b s q w' := by
  obtain ⟨X, h1, h2⟩ := h.out
  exact ⟨⟨X, h1.keep (Fr.of_below (X := fun _ => False) k) (fun _ _ h => h), h2⟩, h.below.trans (k.mono h.below.size)⟩
theorem arr8_cells {w : World} {B : Nat} {p : Pk} {sa : Option Addr} {sc : Nat} {da : Option Addr} {dc : Nat} (h : Row w B 30 51 51 (pkV p sa sc da dc)) : ∀ j, j < 8 → w.cell? ⟨B, 0 + j, none⟩ = some (vOf p.set j) := fun j hj => by
  rw [Nat.zero_add, h.cell j (by omega), pkV_set _ _ _ _ _ hj]
theorem dg_sl {w : World} {g : Nat} {l : List Nat} (h : w.heap[g]? = some (.cells (rowArr 32 (vOf l)) 23 (0, 0))) (hl : l.length = 32) (hb : IsByte l) : Sl w (some ⟨g, 0, none⟩) 32 l := by
  refine ⟨hb, by rw [hl]; exact Nat.le_refl _, by unfold maxLen; omega, fun e => (by cases e), .inr ⟨g, 0, rfl, fun i hi => ?_⟩⟩
  have hi8 : i < 32 := by rw [hl] at hi; exact hi
  rw [cell_of_block h, ← vOf_eq l i hi, Nat.zero_add]
  simp [rowArr, hi8]

set_option maxRecDepth 1000000 in
set_option maxHeartbeats 8000000 in
theorem encode_any (p : Pk) (sa : Option Addr) (sc : Nat) (da : Option Addr) (dc : Nat) (w : World) (hp : PkAt w p sa sc da dc) (hq : tellQ p ≤ 15000) (ht : Tabs w) :
    Calls Tryd.prog 10 #[.agg (rowArr 51 (pkV p sa sc da dc))] w (EncPost p w) := by
  have mixed : Tryd.prog.follows .mixedOrders = true := by kernel_rfl
  have hHB : Below w.heap.size w (w.alloc (.cells (rowArr 51 (pkV p sa sc da dc)) 30)) := (Below.refl _ _).alloc (Nat.le_refl _) _
  have hHP : Row (w.alloc (.cells (rowArr 51 (pkV p sa sc da dc)) 30)) w.heap.size 30 51 51 (pkV p sa sc da dc) := Row.of_whole (heap_alloc_last w _)
  have HB := Lib.hid hHB
  have HP := Lib.hid hHP
  have HPK := Lib.hid (hp.below hHB)
  have HT0 := Lib.hid ht
  have hqq : 100 + p.file.name.length + 44 * p.sums.length + p.data.length ≤ 15000 := hq
  have HPL := Lib.hid (plain_any p sa sc da dc (w.alloc (.cells (rowArr 51 (pkV p sa sc da dc)) 30)) hp.okk.file (by omega) (by omega))
  obtain ⟨AQ, hAQ⟩ : ∃ AQ, AQ = rowArr 51 (pkV p sa sc da dc) := ⟨_, rfl⟩
  have HAS : Hid (AQ.size = 51) := by show _ = _; rw [hAQ, rowArr_size]
  rw [← hAQ] at HB HP HPK HPL ⊢
  have HAQ := Lib.hid hAQ
  have HBP := Lib.hid hp
  clear hAQ hHB hHP hp ht hqq
  go_enter Tryd.func10, Tryd.ntmps10
  go_upto_region 1 with fail
  obtain ⟨B, hB⟩ : ∃ B, B = w.heap.size := ⟨_, rfl⟩
  have hwB : w.heap.size ≤ B := by omega
  have hwB2 : B ≤ w.heap.size := by omega
  rw [← hB] at HP ⊢
  generalize w.alloc (.cells AQ 30) = w1 at *
  clear hB
  have HWH : Hid (w1.heap[B]? = some (.cells AQ 30 (0, 0))) := by show _ = _; rw [HAQ.out]; exact HP.out.whole
  by_cases hpl : plainP p
  · rw [decide_eq_true hpl] at HPL
    have HPN := Lib.hid hpl
    clear hpl
    go_upto_region 3 with (first
      | (refine wpList_load_row rfl 30 _ rfl B rfl 30 AQ (0, 0) _ HWH.out Tryd.underlying30 rfl (by rw [HAS.out]; kernel_rfl) ?_)
      | (go_at_call 25; (with_reducible refine HPL.out.mono ?_); rintro e w2 ⟨rfl, b2⟩; have HB12 := Lib.hid b2; clear b2))
    have HB2 : Hid (Below w.heap.size w w2) := HB.out.trans (HB12.out.mono HB.out.size)
    have HP2 : Hid (Row w2 B 30 51 51 (pkV p sa sc da dc)) := HP.out.fr (X := fun _ => False) (Fr.of_below HB12.out) (fun h => h)
    have HPK2 := Lib.hid (HPK.out.below HB12.out)
    have hZ := OutAt.zero w2
    have hBZ : Below w2.heap.size w2 (w2.alloc (.cells outZ 66)) := (Below.refl _ _).alloc (Nat.le_refl _) _
    have HZ := Lib.hid hZ
    have HBZ := Lib.hid hBZ
    clear HB HP HPK HPL HWH hZ hBZ HB12
    go_upto_region 4 with fail
    change Code.wp _ _ _ _ (w2.alloc (.cells outZ 66))
    obtain ⟨tb, htb⟩ : ∃ tb, tb = w2.heap.size := ⟨_, rfl⟩
    have htb2 : w2.heap.size ≤ tb := by omega
    have htb3 : tb ≤ w2.heap.size := by omega
    rw [← htb] at HZ ⊢
    generalize w2.alloc (.cells outZ 66) = w3 at *
    clear htb
    have hBt : B < tb := by have := HP2.out.lt; omega
    have HB3 : Hid (Below w.heap.size w w3) := HB2.out.trans (HBZ.out.mono HB2.out.size)
    have HP3 : Hid (Row w3 B 30 51 51 (pkV p sa sc da dc)) := HP2.out.fr (X := fun _ => False) (Fr.of_below HBZ.out) (fun h => h)
    have HWH3 : Hid (w3.heap[B]? = some (.cells AQ 30 (0, 0))) := by show _ = _; rw [HAQ.out]; exact HP3.out.whole
    have hqq : 100 + p.file.name.length + 44 * p.sums.length + p.data.length ≤ 15000 := hq
    have HTL := Lib.hid (tell_any (fun k => k = tb) w3 tb (some []) 0 p sa sc da dc HZ.out (HPK2.out.below HBZ.out) (fun e r hr hk => by
      rcases HPK2.out.sums.here with h | ⟨b', off, h, h2, _⟩
      · exact e h
      · rw [h] at hr; cases hr; have h3 : b' = tb := hk; omega) (fun e r hr hk => by have := HPK2.out.data.blk r hr e; omega) (by omega) (by omega) (by omega))
    rw [← HAQ.out] at HTL
    have hTQ : tellQ p ≤ 15000 := hq
    obtain ⟨TQ, hTQ2⟩ : ∃ TQ, TQ = tellQ p := ⟨_, rfl⟩
    obtain ⟨TL, hTLe⟩ : ∃ TL, TL = tellN (some []) p := ⟨_, rfl⟩
    rw [← hTQ2, ← hTLe] at HTL
    rw [← hTQ2] at hTQ
    have HTQE := Lib.hid hTQ2
    have HTLE := Lib.hid hTLe
    have HOKI := Lib.hid HPK2.out.okk
    clear HZ HB2 HP2 HPK2 HBZ hq hqq hTQ2 hTLe HBP
    go_upto_region 5 with (first
      | (refine wpList_load_row rfl 30 _ rfl B rfl 30 AQ (0, 0) _ HWH3.out Tryd.underlying30 rfl (by rw [HAS.out]; kernel_rfl) ?_)
      | (go_at_call 26; (with_reducible refine HTL.out.mono ?_); rintro e w4 ⟨rfl, X, ho, hX, hf⟩; have HO4 := Lib.hid ho; have HX4 := Lib.hid hX; have HF4 := Lib.hid hf; clear ho hX hf HTL))
    have HB4 : Hid (Below w.heap.size w w4) := HB3.out.trans (HF4.out.below HB3.out.size fun k hk e => by have := HP3.out.lt; omega)
    have HP4 : Hid (Row w4 B 30 51 51 (pkV p sa sc da dc)) := HP3.out.fr HF4.out (by omega)
    clear HB3 HP3 HWH3 HF4
    cases hte : TL with
    | none =>
      have HNO : Hid (¬ pkOk p) := fun ho => by
        have := (tell_ok HOKI.out ho).2
        rw [← HTLE.out, hte] at this
        cases this
      rw [hte] at HO4
      have HEB := Lib.hid (end_bad X w4 tb _ HO4.out)
      clear hte HO4 HTLE
      go_wp2_with fail
      (with_reducible refine HEB.out.mono ?_)
      rintro e w5 ⟨a1, c1, rfl, b5⟩
      have HB5 : Hid (Below w.heap.size w w5) := HB4.out.trans (b5.mono HB4.out.size)
      clear b5 HEB
      go_wp2_with fail
      go_ret2
      exact ⟨HB5.out, fun ho => absurd ho HNO.out, fun _ => rfl⟩
    | some l =>
      have hok : pkOk p := tell_get HOKI.out HPN.out (by rw [← HTLE.out, hte])
      have hlk : l = kbN p.kind (pkBody p) := by
        have := (tell_ok HOKI.out hok).2
        rw [← HTLE.out, hte] at this
        exact Option.some.inj this
      have hll : l.length ≤ TQ := by rw [hlk, HTQE.out]; exact tell_len HOKI.out hok
      rw [hte] at HO4
      have HOK := Lib.hid hok
      have HLK := Lib.hid hlk
      have HEN := Lib.hid (end_ok X w4 tb l _ HO4.out (by omega))
      have h8 := HOKI.out.set8
      have h8b := HOKI.out.setb
      clear hte HO4 HTLE hok hlk
      go_wp2_with fail
      (with_reducible refine HEN.out.mono ?_)
      rintro e w5 ⟨a1, c1, rfl, hs, b5⟩
      have HB5 : Hid (Below w.heap.size w w5) := HB4.out.trans (b5.mono HB4.out.size)
      have HS5 := Lib.hid hs
      have HP5 : Hid (Row w5 B 30 51 51 (pkV p sa sc da dc)) := HP4.out.fr (X := fun _ => False) (Fr.of_below b5) (fun h => h)
      have HCK := Lib.hid (check_any p.set a1 c1 l w5 h8 h8b hs (by omega) (HT0.out.below HB5.out))
      have hlm := hs.lt
      have hcm : c1 ≤ 9223372036854775807 := by have := hs.most; unfold maxLen at this; omega
      clear b5 hs HEN HB4 HP4
      go_upto_region 8 with fail
      have HC8 := Lib.hid (arr8_cells HP5.out)
      obtain ⟨A3, hA3⟩ : ∃ A3, A3 = rowArr 8 (vOf p.set) := ⟨_, rfl⟩
      have V3 : Hid (rowArr 8 (vOf p.set) = A3) := hA3.symm
      have hDl := dgN_len (p.set ++ l)
      have hDb := dgN_byte (p.set ++ l)
      obtain ⟨D, hD⟩ : ∃ D, D = dgN (p.set ++ l) := ⟨_, rfl⟩
      rw [← hA3, ← hD] at HCK
      rw [← hD] at hDl hDb
      have HDE := Lib.hid hD
      have HDL := Lib.hid hDl
      have HDB := Lib.hid hDb
      clear hA3 hD hDl hDb
      go_upto_region 9 with (first
        | (refine wpList_load_v (by rfl) 22 _ rfl B 0 8 _ A3 V3.out rfl _ HC8.out Tryd.underlying22 rfl (by kernel_rfl) ?_)
        | (go_at_call 28; (with_reducible refine HCK.out.mono ?_); rintro e w6 ⟨rfl, b6⟩; have HB56 := Lib.hid b6; clear b6 HCK; have HALL : Hid (∀ c : Array Value, (w6.alloc (.cells c 23)).heap[w6.heap.size]? = some (.cells c 23 (0, 0))) := (fun c => heap_alloc_last w6 _); have HALB : Hid (∀ c : Array Value, Below w6.heap.size w6 (w6.alloc (.cells c 23))) := (fun c => (Below.refl _ _).alloc (Nat.le_refl _) _))
        | (refine wpList_store_arr rfl 23 _ _ rfl w6.heap.size (rowArr 32 (vOf D)) rfl rfl 23 _ (HALL.out _) (by rw [rowArr_size]; kernel_rfl) (by rw [rowArr_size]; rfl) (oneCell_v D 32) ?_; intro w7 HC7 hf7; have HB67 : Hid (Below w6.heap.size w6 w7) := (HALB.out _).trans (hf7.out.below (HALB.out _).size (fun k hk e => by omega)); clear hf7 HALL HALB))
      obtain ⟨db, hdb⟩ : ∃ db, db = w6.heap.size := ⟨_, rfl⟩
      rw [← hdb] at HC7 ⊢
      have HB57 : Hid (Below w5.heap.size w5 w7) := HB56.out.trans (HB67.out.mono HB56.out.size)
      have HS7 := Lib.hid (HS5.out.below HB57.out)
      have HP7 : Hid (Row w7 B 30 51 51 (pkV p sa sc da dc)) := HP5.out.fr (X := fun _ => False) (Fr.of_below HB57.out) (fun h => h)
      have HSD7 := Lib.hid (dg_sl HC7.out HDL.out HDB.out)
      have HST7 := Lib.hid (pk_st HP7.out HOKI.out)
      have HB7 : Hid (Below w.heap.size w w7) := HB5.out.trans (HB57.out.mono HB5.out.size)
      have hE : EnSt w7 w7.heap.size (some []) 0 (w7.alloc (.cells outZ 66)) := ⟨⟨_, OutAt.zero w7, fun k hk => by have h2 : k = w7.heap.size := hk; omega⟩, (Below.refl _ _).alloc (Nat.le_refl _) _⟩
      have HE := Lib.hid hE
      have H8 := Lib.hid h8
      clear hdb HB56 HB67 HC7 HS5 HP5 HB5 HB57 HP7 hE h8 h8b V3 HC8 HDB HT0 HOKI HPN
      go_upto_region 10 with fail
      change Code.wp _ _ _ _ (w7.alloc (.cells outZ 66))
      obtain ⟨ab, hab⟩ : ∃ ab, ab = w7.heap.size := ⟨_, rfl⟩
      rw [← hab] at HE ⊢
      generalize w7.alloc (.cells outZ 66) = w8 at *
      clear hab
      have hcc := Go.Lib.run_convert_bytes_const (P := Tryd.prog) w8 28 5 #[.int .u8 71, .int .u8 89, .int .u8 83, .int .u8 49] 4 4 Tryd.underlying28 Tryd.underlying5
      have hG : (w8.alloc (.cells #[.int .u8 71, .int .u8 89, .int .u8 83, .int .u8 49] 5 (4, 5))).heap[w8.heap.size]? = some (.cells #[.int .u8 71, .int .u8 89, .int .u8 83, .int .u8 49] 5 (4, 5)) := heap_alloc_last w8 _
      have hBM : Below w8.heap.size w8 (w8.alloc (.cells #[.int .u8 71, .int .u8 89, .int .u8 83, .int .u8 49] 5 (4, 5))) := (Below.refl _ _).alloc (Nat.le_refl _) _
      have hGS : Sl (w8.alloc (.cells #[.int .u8 71, .int .u8 89, .int .u8 83, .int .u8 49] 5 (4, 5))) (some ⟨w8.heap.size, 0, none⟩) 4 [71, 89, 83, 49] := by
        refine ⟨by intro x hx; simp at hx; omega, by simp, by unfold maxLen; simp, fun e => (by cases e), .inr ⟨w8.heap.size, 0, rfl, fun j hj => ?_⟩⟩
        have hj4 : j < 4 := hj
        rw [cell_of_row _ _ _ _ _ _ hG]
        match j, hj4 with
        | 0, _ => rfl
        | 1, _ => rfl
        | 2, _ => rfl
        | 3, _ => rfl
      have HN := Lib.hid ((HE.out.later hBM).put (s' := some [71, 89, 83, 49]) (q' := 0 + 4) fun X hX => outR_any X _ ab _ _ (some ⟨w8.heap.size, 0, none⟩) 4 [71, 89, 83, 49] hX (by omega) hGS (by simp))
      rw [show ([71, 89, 83, 49] : List Nat).length = 4 from rfl] at HN
      clear hG hBM hGS HE
      go_wp2_with fail
      (with_reducible refine HN.out.mono ?_)
      rintro e w9 ⟨rfl, h9⟩
      have E9 := Lib.hid h9
      clear h9 HN hcc
      obtain ⟨Z, hZ⟩ : ∃ Z, Z = 48 + l.length := ⟨_, rfl⟩
      have hZ2 : (48 : Int) + (l.length : Int) = (Z : Int) := by omega
      have HZE := Lib.hid hZ
      have hZb : Z ≤ 30000 := by omega
      clear hZ
      have HN := Lib.hid (E9.out.put (s' := some ([71, 89, 83, 49] ++ wideN Z 4)) (q' := 0 + 4 + 6) fun X hX => by
        have h := outN_any X w9 ab _ _ (Z : Int) 4 hX (by omega) ⟨by omega, by omega⟩ ⟨by omega, by omega⟩
        rw [putN4n (by omega)] at h
        exact h)
      go_wp2_with fail
      (with_reducible refine HN.out.mono ?_)
      rintro e w10 ⟨rfl, h10⟩
      have E10 := Lib.hid h10
      clear h10 HN E9 hZ2
      have HN := Lib.hid (E10.out.put (s' := some ([71, 89, 83, 49] ++ wideN Z 4 ++ p.set)) (q' := 0 + 4 + 6 + 8) fun X hX => by
        have h := outR_any X w10 ab _ _ (some ⟨B, 0, none⟩) 8 p.set hX (by omega) (HST7.out.below E10.out.below) (by rw [H8.out]; omega)
        rw [H8.out] at h
        exact h)
      go_wp2_with fail
      (with_reducible refine HN.out.mono ?_)
      rintro e w11 ⟨rfl, h11⟩
      have E11 := Lib.hid h11
      clear h11 HN E10
      have HN := Lib.hid (E11.out.put (s' := some ([71, 89, 83, 49] ++ wideN Z 4 ++ p.set ++ D)) (q' := 0 + 4 + 6 + 8 + 32) fun X hX => by
        have h := outR_any X w11 ab _ _ (some ⟨db, 0, none⟩) 32 D hX (by omega) (HSD7.out.below E11.out.below) (by rw [HDL.out]; omega)
        rw [HDL.out] at h
        exact h)
      go_wp2_with fail
      (with_reducible refine HN.out.mono ?_)
      rintro e w12 ⟨rfl, h12⟩
      have E12 := Lib.hid h12
      clear h12 HN E11
      have HN := Lib.hid (E12.out.put (s' := some ([71, 89, 83, 49] ++ wideN Z 4 ++ p.set ++ D ++ l)) (q' := 0 + 4 + 6 + 8 + 32 + l.length) fun X hX => outR_any X w12 ab _ _ a1 c1 l hX (by omega) (HS7.out.below E12.out.below) (by omega))
      go_wp2_with fail
      (with_reducible refine HN.out.mono ?_)
      rintro e w13 ⟨rfl, h13⟩
      have E13 := Lib.hid h13
      clear h13 HN E12
      have HL : Hid ([71, 89, 83, 49] ++ wideN Z 4 ++ p.set ++ D ++ l = pkBytes p) := by
        show _ = _
        unfold pkBytes bytesN
        rw [← HLK.out, ← HDE.out, ← HZE.out]
      rw [HL.out] at E13
      obtain ⟨X13, hX13, _⟩ := E13.out.out
      have HEN := Lib.hid (end_ok X13 w13 ab _ _ hX13 (by omega))
      have HB13 : Hid (Below w.heap.size w w13) := HB7.out.trans (E13.out.below.mono HB7.out.size)
      clear hX13 E13 HL
      go_wp2_with fail
      (with_reducible refine HEN.out.mono ?_)
      rintro e w14 ⟨a2, c2, rfl, hs2, b14⟩
      have HS14 := Lib.hid hs2
      have HB14 : Hid (Below w.heap.size w w14) := HB13.out.trans (b14.mono HB13.out.size)
      clear hs2 b14 HEN HB13
      obtain ⟨PL, hPL⟩ : ∃ PL, PL = (pkBytes p).length := ⟨_, rfl⟩
      rw [← hPL]
      have HPLE := Lib.hid hPL
      clear hPL
      go_wp2_with fail
      go_ret2
      exact ⟨HB14.out, fun _ => ⟨a2, c2, by rw [← HPLE.out]; rfl, HS14.out⟩, fun h => absurd HOK.out h⟩
  · rw [decide_eq_false hpl] at HPL
    have HNO : Hid (¬ pkOk p) := fun ho => hpl (tell_ok HBP.out.okk ho).1
    clear hpl
    go_wp2_with (refine wpList_load_row rfl 30 _ rfl B rfl 30 AQ (0, 0) _ HWH.out Tryd.underlying30 rfl (by rw [HAS.out]; kernel_rfl) ?_)
    (with_reducible refine HPL.out.mono ?_)
    rintro e w2 ⟨rfl, b2⟩
    have HB2 : Hid (Below w.heap.size w w2) := HB.out.trans (b2.mono HB.out.size)
    clear b2 HPL
    go_wp2_with fail
    go_ret2
    exact ⟨HB2.out, fun ho => absurd ho HNO.out, fun _ => rfl⟩
end Go.Proofs.YthpfjgbhacdpgaaDoor
end

section
namespace Go.Proofs.YthpfjgbhacdpgaaDoor
open Go.ChangeShapes Go.WideShapes Go.ChangeAt Go.RowKit Go.Joins
set_option linter.unusedVariables false

/-- What body answers. -/
def BodyPost (p : Pk) (w : World) (e : Ending) (w' : World) : Prop :=
  ∃ (v : Value) (ok : Bool), e = .returned (.tuple #[v, .bool ok]) ∧ (ok = true ↔ pkOk p) ∧ (ok = true → Acc w w' v (pkBody p)) ∧ Below w.heap.size w w'
theorem bodyPost_no {p : Pk} {w w' : World} {v : Value} (h : ¬ pkOk p) (b : Below w.heap.size w w') : BodyPost p w (.returned (.tuple #[v, .bool false])) w' :=
  ⟨v, false, rfl, ⟨fun h => (by cases h), fun k => absurd k h⟩, fun h => (by cases h), b⟩
theorem bodyPost_yes {p : Pk} {w w' : World} {v : Value} (h : pkOk p) (a : Acc w w' v (pkBody p)) : BodyPost p w (.returned (.tuple #[v, .bool true])) w' :=
  ⟨v, true, rfl, ⟨fun _ => h, fun _ => rfl⟩, fun _ => a, a.below⟩

end Go.Proofs.YthpfjgbhacdpgaaDoor
end

section
namespace Go.Proofs.YthpfjgbhacdpgaaDoor
open Go.ChangeShapes Go.WideShapes Go.ChangeAt Go.RowKit Go.Joins
set_option linter.unusedVariables false

set_option maxRecDepth 1000000 in
set_option maxHeartbeats 16000000 in
theorem body_k1 (p : Pk) (sa : Option Addr) (sc : Nat) (da : Option Addr) (dc : Nat) (w : World) (hp : PkAt w p sa sc da dc) (hsl : p.sums.length ≤ 1000) (hdl : p.data.length ≤ 900000) (hnl : p.file.name.length ≤ 100000) (hk : p.kind = 1) :
    Calls Tryd.prog 11 #[.agg (rowArr 51 (pkV p sa sc da dc))] w (BodyPost p w) := by
  have mixed : Tryd.prog.follows .mixedOrders = true := by kernel_rfl
  have hHB : Below w.heap.size w (w.alloc (.cells (rowArr 51 (pkV p sa sc da dc)) 30)) := (Below.refl _ _).alloc (Nat.le_refl _) _
  have hHP : Row (w.alloc (.cells (rowArr 51 (pkV p sa sc da dc)) 30)) w.heap.size 30 51 51 (pkV p sa sc da dc) := Row.of_whole (heap_alloc_last w _)
  have HB := Lib.hid hHB
  have HP := Lib.hid hHP
  have HPK := Lib.hid (hp.below hHB)
  obtain ⟨arr, harr⟩ : ∃ arr, arr = rowArr 51 (pkV p sa sc da dc) := ⟨_, rfl⟩
  rw [← harr] at HB HP HPK ⊢
  clear harr hHB hHP hp
  go_enter Tryd.func11, Tryd.ntmps11
  go_upto_region 1 with fail
  obtain ⟨B, hB⟩ : ∃ B, B = w.heap.size := ⟨_, rfl⟩
  have hwB : w.heap.size ≤ B := by omega
  rw [← hB] at HP ⊢
  generalize w.alloc (.cells arr 30) = w1 at *
  clear hB
  obtain ⟨set, kd, sl, fs, ss, ix, fl, sm, id, dt⟩ := p
  simp only at hsl hdl hnl hk
  have c8 : w1.cell? ⟨B, 8, none⟩ = some (.int .i64 kd) := HP.out.cell 8 (by omega)
  have c9 : w1.cell? ⟨B, 9, none⟩ = some (.int .i64 sl) := HP.out.cell 9 (by omega)
  have c10 : w1.cell? ⟨B, 10, none⟩ = some (.int .i64 fs) := HP.out.cell 10 (by omega)
  have c11 : w1.cell? ⟨B, 11, none⟩ = some (.int .i64 ss) := HP.out.cell 11 (by omega)
  have c12 : w1.cell? ⟨B, 12, none⟩ = some (.int .i64 ix) := HP.out.cell 12 (by omega)
  have c48 : w1.cell? ⟨B, 48, none⟩ = some (.slice sa sm.length sc) := HP.out.cell 48 (by omega)
  have c49 : w1.cell? ⟨B, 49, none⟩ = some (.int .u32 (id : Int)) := HP.out.cell 49 (by omega)
  have c50 : w1.cell? ⟨B, 50, none⟩ = some (.slice da dt.length dc) := HP.out.cell 50 (by omega)
  have HFO : Hid (FilOk fl) := HPK.out.okk.file
  -- nothing of a main packet
  go_cut [4] (fun s4 wx => ∃ nb : Bool, s4 = .bool nb ∧ Hid (nb = true ↔ sl = 0 ∧ fs = 0 ∧ ss = 0) ∧ w1 = wx)
  case first =>
    by_cases q0 : sl = 0
    · have d0 : (sl == 0) = true := beq_iff_eq.2 q0
      by_cases q1 : fs = 0
      · have d1 : (fs == 0) = true := beq_iff_eq.2 q1
        have HR : Hid ((ss == 0) = true ↔ sl = 0 ∧ fs = 0 ∧ ss = 0) := ⟨fun h => ⟨q0, q1, beq_iff_eq.1 h⟩, fun h => beq_iff_eq.2 h.2.2⟩
        clear q0 q1
        go_wp2_with fail
        go_meet
        exact ⟨_, rfl, HR, rfl⟩
      · have d1 : (fs == 0) = false := beq_eq_false_iff_ne.2 q1
        have HR : Hid (false = true ↔ sl = 0 ∧ fs = 0 ∧ ss = 0) := ⟨fun h => (by cases h), fun h => absurd h.2.1 q1⟩
        clear q0 q1
        go_wp2_with fail
        go_meet
        exact ⟨_, rfl, HR, rfl⟩
    · have d0 : (sl == 0) = false := beq_eq_false_iff_ne.2 q0
      have HR : Hid (false = true ↔ sl = 0 ∧ fs = 0 ∧ ss = 0) := ⟨fun h => (by cases h), fun h => absurd h.1 q0⟩
      clear q0
      go_wp2_with fail
      go_meet
      exact ⟨_, rfl, HR, rfl⟩
  case rest =>
  obtain ⟨nb, rfl, HNB, rfl⟩ := hcut
  -- no file
  obtain ⟨FA, hFA⟩ : ∃ FA, FA = rowArr 35 (filV fl) := ⟨_, rfl⟩
  obtain ⟨fb, hfb⟩ : ∃ fb : Bool, fb = decide (fl = zFil) := ⟨_, rfl⟩
  have HFB : Hid (fb = true ↔ fl = zFil) := by show _ ↔ _; rw [hfb, decide_eq_true_iff]
  have hnf : ∀ w, (binOp .eql 25 (.agg FA) (.agg #[.string { data := #[] }, .int .i64 0, .int .u8 0, .int .u8 0, .int .u8 0, .int .u8 0, .int .u8 0, .int .u8 0, .int .u8 0, .int .u8 0, .int .u8 0, .int .u8 0, .int .u8 0, .int .u8 0, .int .u8 0, .int .u8 0, .int .u8 0, .int .u8 0, .int .u8 0, .int .u8 0, .int .u8 0, .int .u8 0, .int .u8 0, .int .u8 0, .int .u8 0, .int .u8 0, .int .u8 0, .int .u8 0, .int .u8 0, .int .u8 0, .int .u8 0, .int .u8 0, .int .u8 0, .int .u8 0, .int .i64 0])).run Tryd.prog w = .ok (.bool fb) w := fun w => by
    show (binOp .eql 25 (.agg FA) (.agg zF)).run Tryd.prog w = _
    rw [run_eql_struct, hFA, zF_eq, eq_file HFO.out zFil_ok 9997 w, hfb]
    rfl
  have HV : Hid ((rowArr 35 fun j => pkV ⟨set, kd, sl, fs, ss, ix, fl, sm, id, dt⟩ sa sc da dc (13 + j)) = FA) := by show _ = _; rw [pk_file, hFA]
  have HG : Hid (∀ j, j < 35 → w1.cell? ⟨B, 13 + j, none⟩ = some (pkV ⟨set, kd, sl, fs, ss, ix, fl, sm, id, dt⟩ sa sc da dc (13 + j))) := fun j hj => HP.out.cell _ (by omega)
  have HFA := Lib.hid hFA
  clear hFA hfb
  go_upto_region 3 with (refine wpList_load_v (by rfl) 25 _ rfl B 13 35 _ FA HV.out rfl _ HG.out Tryd.underlying25 rfl (by kernel_rfl) ?_)
  clear hnf
  -- no symbol
  go_cut [6] (fun s6 wx => ∃ sb : Bool, s6 = .bool sb ∧ Hid (sb = true ↔ id = 0 ∧ dt = []) ∧ w1 = wx)
  case first =>
    by_cases q0 : id = 0
    · have d0 : ((id : Int) == 0) = true := beq_iff_eq.2 (by omega)
      have HR : Hid (((dt.length : Int) == 0) = true ↔ id = 0 ∧ dt = []) := ⟨fun h => ⟨q0, List.length_eq_zero_iff.1 (by have := beq_iff_eq.1 h; omega)⟩, fun h => beq_iff_eq.2 (by rw [h.2]; rfl)⟩
      clear q0
      go_wp2_with fail
      go_meet
      exact ⟨_, rfl, HR, rfl⟩
    · have d0 : ((id : Int) == 0) = false := beq_eq_false_iff_ne.2 (by omega)
      have HR : Hid (false = true ↔ id = 0 ∧ dt = []) := ⟨fun h => (by cases h), fun h => absurd h.1 q0⟩
      clear q0
      go_wp2_with fail
      go_meet
      exact ⟨_, rfl, HR, rfl⟩
  case rest =>
  obtain ⟨sb, rfl, HSB, rfl⟩ := hcut
  have HSM := Lib.hid HPK.out.sums
  have HDT := Lib.hid HPK.out.data
  have HOKI := Lib.hid HPK.out.okk
  have HLM : Hid (sm.length = 0 ↔ sm = []) := List.length_eq_zero_iff
  subst hk
  go_upto_region 6 with fail
  obtain ⟨wd, hwd⟩ : ∃ wd, wd = w1.drew := ⟨_, rfl⟩
  have HBd : Hid (Below w1.heap.size w1 wd) := by rw [hwd]; exact (Below.refl _ _).drew
  have HPd := Lib.hid (HP.out.fr (X := fun _ => False) (Fr.of_below HBd.out) (fun h => h))
  have k9 : ∀ u : KeepW wd fun _ => False, u.v.cell? ⟨B, 9, none⟩ = some (.int .i64 sl) := fun u => (u.cell HPd.out.lt (fun h => h)).trans (HPd.out.cell 9 (by omega))
  have k10 : ∀ u : KeepW wd fun _ => False, u.v.cell? ⟨B, 10, none⟩ = some (.int .i64 fs) := fun u => (u.cell HPd.out.lt (fun h => h)).trans (HPd.out.cell 10 (by omega))
  have k11 : ∀ u : KeepW wd fun _ => False, u.v.cell? ⟨B, 11, none⟩ = some (.int .i64 ss) := fun u => (u.cell HPd.out.lt (fun h => h)).trans (HPd.out.cell 11 (by omega))
  have k12 : ∀ u : KeepW wd fun _ => False, u.v.cell? ⟨B, 12, none⟩ = some (.int .i64 ix) := fun u => (u.cell HPd.out.lt (fun h => h)).trans (HPd.out.cell 12 (by omega))
  have k48 : ∀ u : KeepW wd fun _ => False, u.v.cell? ⟨B, 48, none⟩ = some (.slice sa sm.length sc) := fun u => (u.cell HPd.out.lt (fun h => h)).trans (HPd.out.cell 48 (by omega))
  have HCL := Lib.hid (refMain_any sl fs ss wd HOKI.out.slice HOKI.out.files HOKI.out.slices)
  refine growK_begin 53 (fun w' => ∃ u : KeepW wd (fun _ => False), w' = u.v) (by kernel_rfl) ?_
  rw [← hwd]
  clear hwd
  refine growK_take (by kernel_rfl) [0, 1, 2, 3, 4, 5, 7, 8, 9] 45 _ _ (by kernel_rfl) _ (keep_class (Fr.refl _ _)) ?_
  simp only [opsAt, List.getElem?_toArray, List.getElem?_cons_succ, List.getElem?_cons_zero]
  repeat (first | go_big_quiet_step (fail) | quiet_step (fail))
  refine wpQuiet_nil ?_
  refine growK_one 6 (by kernel_rfl) (fun K hK => ?_)
  simp only [stepOf, List.getElem?_toArray, List.getElem?_cons_succ, List.getElem?_cons_zero]
  go_simp
  go_at_call 31
  (with_reducible refine HCL.out.mono ?_)
  rintro e w5 ⟨v, rfl, ha⟩
  have HA : Hid (Acc w w5 v _) := ha.base (HB.out.trans (HBd.out.mono HB.out.size))
  have HF5 : Hid (Fr (fun _ => False) wd w5) := Fr.of_below ha.below
  refine hK.out _ _ (keep_class HF5.out) ?_
  clear hK K ha HCL
  refine growK_take (by kernel_rfl) [10, 11, 12, 13, 14, 15, 16, 17, 18, 19, 20, 21, 22, 23, 24, 25, 26, 27, 28, 29, 30, 31, 32, 33, 34, 35, 36, 37, 38, 39, 40, 41, 42, 43, 44, 45, 46, 47, 48, 49, 50, 51, 52] 1 _ _ (by kernel_rfl) _ (keep_class HF5.out) ?_
  simp only [opsAt, List.getElem?_toArray, List.getElem?_cons_succ, List.getElem?_cons_zero]
  by_cases y0 : 0 ≤ sl
  · have d0 : decide ((0 : Int) ≤ sl) = true := decide_eq_true y0
    by_cases y1 : sl < 65536
    · have d1 : decide (sl < 65536) = true := decide_eq_true y1
      by_cases y2 : 0 ≤ fs
      · have d2 : decide ((0 : Int) ≤ fs) = true := decide_eq_true y2
        by_cases y3 : fs < 256
        · have d3 : decide (fs < 256) = true := decide_eq_true y3
          by_cases y4 : 0 ≤ ss
          · have d4 : decide ((0 : Int) ≤ ss) = true := decide_eq_true y4
            by_cases y5 : ss < 65536
            · have d5 : decide (ss < 65536) = true := decide_eq_true y5
              by_cases y6 : ix = 0
              · have d6 : (ix == 0) = true := beq_iff_eq.2 y6
                obtain hb7 | hb7 : fb = true ∨ fb = false := by cases fb <;> simp
                · have y7 := HFB.out.1 hb7
                  subst hb7
                  by_cases y8 : sm.length = 0
                  · have d8 : ((sm.length : Int) == 0) = true := beq_iff_eq.2 (by omega)
                    obtain hb9 | hb9 : sb = true ∨ sb = false := by cases sb <;> simp
                    · have y9 := HSB.out.1 hb9
                      subst hb9
                      have HOK : Hid (pkOk ⟨set, 1, sl, fs, ss, ix, fl, sm, id, dt⟩) := .inl ⟨rfl, ⟨y0, y1⟩, ⟨y2, y3⟩, ⟨y4, y5⟩, y6, y7, HLM.out.1 y8, y9⟩
                      clear y0 y1 y2 y3 y4 y5 y6 y7 y8 y9 HNB HFB HSB HLM
                      repeat (first | go_big_quiet_step (fail) | quiet_step (fail))
                      refine wpQuiet_nil ?_
                      clear k9 k10 k11 k12 k48
                      refine growK_last (by kernel_rfl) (by kernel_rfl) (fun K hK => ?_)
                      simp only [stepOf, List.getElem?_toArray, List.getElem?_cons_succ, List.getElem?_cons_zero]
                      go_simp
                      refine hK.out _ _ ?_
                      clear hK K
                      go_wp2_with fail
                      go_ret2
                      exact bodyPost_yes HOK.out HA.out
                    · have n9 : ¬ (id = 0 ∧ dt = []) := fun h => by have := HSB.out.2 h; rw [hb9] at this; cases this
                      subst hb9
                      have HNO : Hid (¬ pkOk ⟨set, 1, sl, fs, ss, ix, fl, sm, id, dt⟩) := by
                        intro h
                        rcases h with h | h | h | h
                        · obtain ⟨_, ⟨a0, a1⟩, ⟨a2, a3⟩, ⟨a4, a5⟩, a6, a7, a8, a9⟩ := h
                          exact n9 a9
                        · exact absurd h.1 (by simp only; decide)
                        · exact absurd h.1 (by simp only; decide)
                        · exact absurd h.1 (by simp only; decide)
                      clear y0 y1 y2 y3 y4 y5 y6 y7 y8 n9 HNB HFB HSB HLM
                      repeat (first | go_big_quiet_step (fail) | quiet_step (fail))
                      refine wpQuiet_nil ?_
                      clear k9 k10 k11 k12 k48
                      refine growK_last (by kernel_rfl) (by kernel_rfl) (fun K hK => ?_)
                      simp only [stepOf, List.getElem?_toArray, List.getElem?_cons_succ, List.getElem?_cons_zero]
                      go_simp
                      refine hK.out _ _ ?_
                      clear hK K
                      go_wp2_with fail
                      go_ret2
                      exact bodyPost_no HNO.out HA.out.below
                  · have n8 := y8
                    clear y8
                    have d8 : ((sm.length : Int) == 0) = false := beq_eq_false_iff_ne.2 (by omega)
                    have HNO : Hid (¬ pkOk ⟨set, 1, sl, fs, ss, ix, fl, sm, id, dt⟩) := by
                      intro h
                      rcases h with h | h | h | h
                      · obtain ⟨_, ⟨a0, a1⟩, ⟨a2, a3⟩, ⟨a4, a5⟩, a6, a7, a8, a9⟩ := h
                        exact n8 (HLM.out.2 a8)
                      · exact absurd h.1 (by simp only; decide)
                      · exact absurd h.1 (by simp only; decide)
                      · exact absurd h.1 (by simp only; decide)
                    clear y0 y1 y2 y3 y4 y5 y6 y7 n8 HNB HFB HSB HLM
                    repeat (first | go_big_quiet_step (fail) | quiet_step (fail))
                    refine wpQuiet_nil ?_
                    clear k9 k10 k11 k12 k48
                    refine growK_last (by kernel_rfl) (by kernel_rfl) (fun K hK => ?_)
                    simp only [stepOf, List.getElem?_toArray, List.getElem?_cons_succ, List.getElem?_cons_zero]
                    go_simp
                    refine hK.out _ _ ?_
                    clear hK K
                    go_wp2_with fail
                    go_ret2
                    exact bodyPost_no HNO.out HA.out.below
                · have n7 : ¬ (fl = zFil) := fun h => by have := HFB.out.2 h; rw [hb7] at this; cases this
                  subst hb7
                  have HNO : Hid (¬ pkOk ⟨set, 1, sl, fs, ss, ix, fl, sm, id, dt⟩) := by
                    intro h
                    rcases h with h | h | h | h
                    · obtain ⟨_, ⟨a0, a1⟩, ⟨a2, a3⟩, ⟨a4, a5⟩, a6, a7, a8, a9⟩ := h
                      exact n7 a7
                    · exact absurd h.1 (by simp only; decide)
                    · exact absurd h.1 (by simp only; decide)
                    · exact absurd h.1 (by simp only; decide)
                  clear y0 y1 y2 y3 y4 y5 y6 n7 HNB HFB HSB HLM
                  repeat (first | go_big_quiet_step (fail) | quiet_step (fail))
                  refine wpQuiet_nil ?_
                  clear k9 k10 k11 k12 k48
                  refine growK_last (by kernel_rfl) (by kernel_rfl) (fun K hK => ?_)
                  simp only [stepOf, List.getElem?_toArray, List.getElem?_cons_succ, List.getElem?_cons_zero]
                  go_simp
                  refine hK.out _ _ ?_
                  clear hK K
                  go_wp2_with fail
                  go_ret2
                  exact bodyPost_no HNO.out HA.out.below
              · have n6 := y6
                clear y6
                have d6 : (ix == 0) = false := beq_eq_false_iff_ne.2 n6
                have HNO : Hid (¬ pkOk ⟨set, 1, sl, fs, ss, ix, fl, sm, id, dt⟩) := by
                  intro h
                  rcases h with h | h | h | h
                  · obtain ⟨_, ⟨a0, a1⟩, ⟨a2, a3⟩, ⟨a4, a5⟩, a6, a7, a8, a9⟩ := h
                    exact n6 a6
                  · exact absurd h.1 (by simp only; decide)
                  · exact absurd h.1 (by simp only; decide)
                  · exact absurd h.1 (by simp only; decide)
                clear y0 y1 y2 y3 y4 y5 n6 HNB HFB HSB HLM
                repeat (first | go_big_quiet_step (fail) | quiet_step (fail))
                refine wpQuiet_nil ?_
                clear k9 k10 k11 k12 k48
                refine growK_last (by kernel_rfl) (by kernel_rfl) (fun K hK => ?_)
                simp only [stepOf, List.getElem?_toArray, List.getElem?_cons_succ, List.getElem?_cons_zero]
                go_simp
                refine hK.out _ _ ?_
                clear hK K
                go_wp2_with fail
                go_ret2
                exact bodyPost_no HNO.out HA.out.below
            · have n5 := y5
              clear y5
              have d5 : decide (ss < 65536) = false := decide_eq_false n5
              have HNO : Hid (¬ pkOk ⟨set, 1, sl, fs, ss, ix, fl, sm, id, dt⟩) := by
                intro h
                rcases h with h | h | h | h
                · obtain ⟨_, ⟨a0, a1⟩, ⟨a2, a3⟩, ⟨a4, a5⟩, a6, a7, a8, a9⟩ := h
                  exact n5 a5
                · exact absurd h.1 (by simp only; decide)
                · exact absurd h.1 (by simp only; decide)
                · exact absurd h.1 (by simp only; decide)
              clear y0 y1 y2 y3 y4 n5 HNB HFB HSB HLM
              repeat (first | go_big_quiet_step (fail) | quiet_step (fail))
              refine wpQuiet_nil ?_
              clear k9 k10 k11 k12 k48
              refine growK_last (by kernel_rfl) (by kernel_rfl) (fun K hK => ?_)
              simp only [stepOf, List.getElem?_toArray, List.getElem?_cons_succ, List.getElem?_cons_zero]
              go_simp
              refine hK.out _ _ ?_
              clear hK K
              go_wp2_with fail
              go_ret2
              exact bodyPost_no HNO.out HA.out.below
          · have n4 := y4
            clear y4
            have d4 : decide ((0 : Int) ≤ ss) = false := decide_eq_false n4
            have HNO : Hid (¬ pkOk ⟨set, 1, sl, fs, ss, ix, fl, sm, id, dt⟩) := by
              intro h
              rcases h with h | h | h | h
              · obtain ⟨_, ⟨a0, a1⟩, ⟨a2, a3⟩, ⟨a4, a5⟩, a6, a7, a8, a9⟩ := h
                exact n4 a4
              · exact absurd h.1 (by simp only; decide)
              · exact absurd h.1 (by simp only; decide)
              · exact absurd h.1 (by simp only; decide)
            clear y0 y1 y2 y3 n4 HNB HFB HSB HLM
            repeat (first | go_big_quiet_step (fail) | quiet_step (fail))
            refine wpQuiet_nil ?_
            clear k9 k10 k11 k12 k48
            refine growK_last (by kernel_rfl) (by kernel_rfl) (fun K hK => ?_)
            simp only [stepOf, List.getElem?_toArray, List.getElem?_cons_succ, List.getElem?_cons_zero]
            go_simp
            refine hK.out _ _ ?_
            clear hK K
            go_wp2_with fail
            go_ret2
            exact bodyPost_no HNO.out HA.out.below
        · have n3 := y3
          clear y3
          have d3 : decide (fs < 256) = false := decide_eq_false n3
          have HNO : Hid (¬ pkOk ⟨set, 1, sl, fs, ss, ix, fl, sm, id, dt⟩) := by
            intro h
            rcases h with h | h | h | h
            · obtain ⟨_, ⟨a0, a1⟩, ⟨a2, a3⟩, ⟨a4, a5⟩, a6, a7, a8, a9⟩ := h
              exact n3 a3
            · exact absurd h.1 (by simp only; decide)
            · exact absurd h.1 (by simp only; decide)
            · exact absurd h.1 (by simp only; decide)
          clear y0 y1 y2 n3 HNB HFB HSB HLM
          repeat (first | go_big_quiet_step (fail) | quiet_step (fail))
          refine wpQuiet_nil ?_
          clear k9 k10 k11 k12 k48
          refine growK_last (by kernel_rfl) (by kernel_rfl) (fun K hK => ?_)
          simp only [stepOf, List.getElem?_toArray, List.getElem?_cons_succ, List.getElem?_cons_zero]
          go_simp
          refine hK.out _ _ ?_
          clear hK K
          go_wp2_with fail
          go_ret2
          exact bodyPost_no HNO.out HA.out.below
      · have n2 := y2
        clear y2
        have d2 : decide ((0 : Int) ≤ fs) = false := decide_eq_false n2
        have HNO : Hid (¬ pkOk ⟨set, 1, sl, fs, ss, ix, fl, sm, id, dt⟩) := by
          intro h
          rcases h with h | h | h | h
          · obtain ⟨_, ⟨a0, a1⟩, ⟨a2, a3⟩, ⟨a4, a5⟩, a6, a7, a8, a9⟩ := h
            exact n2 a2
          · exact absurd h.1 (by simp only; decide)
          · exact absurd h.1 (by simp only; decide)
          · exact absurd h.1 (by simp only; decide)
        clear y0 y1 n2 HNB HFB HSB HLM
        repeat (first | go_big_quiet_step (fail) | quiet_step (fail))
        refine wpQuiet_nil ?_
        clear k9 k10 k11 k12 k48
        refine growK_last (by kernel_rfl) (by kernel_rfl) (fun K hK => ?_)
        simp only [stepOf, List.getElem?_toArray, List.getElem?_cons_succ, List.getElem?_cons_zero]
        go_simp
        refine hK.out _ _ ?_
        clear hK K
        go_wp2_with fail
        go_ret2
        exact bodyPost_no HNO.out HA.out.below
    · have n1 := y1
      clear y1
      have d1 : decide (sl < 65536) = false := decide_eq_false n1
      have HNO : Hid (¬ pkOk ⟨set, 1, sl, fs, ss, ix, fl, sm, id, dt⟩) := by
        intro h
        rcases h with h | h | h | h
        · obtain ⟨_, ⟨a0, a1⟩, ⟨a2, a3⟩, ⟨a4, a5⟩, a6, a7, a8, a9⟩ := h
          exact n1 a1
        · exact absurd h.1 (by simp only; decide)
        · exact absurd h.1 (by simp only; decide)
        · exact absurd h.1 (by simp only; decide)
      clear y0 n1 HNB HFB HSB HLM
      repeat (first | go_big_quiet_step (fail) | quiet_step (fail))
      refine wpQuiet_nil ?_
      clear k9 k10 k11 k12 k48
      refine growK_last (by kernel_rfl) (by kernel_rfl) (fun K hK => ?_)
      simp only [stepOf, List.getElem?_toArray, List.getElem?_cons_succ, List.getElem?_cons_zero]
      go_simp
      refine hK.out _ _ ?_
      clear hK K
      go_wp2_with fail
      go_ret2
      exact bodyPost_no HNO.out HA.out.below
  · have n0 := y0
    clear y0
    have d0 : decide ((0 : Int) ≤ sl) = false := decide_eq_false n0
    have HNO : Hid (¬ pkOk ⟨set, 1, sl, fs, ss, ix, fl, sm, id, dt⟩) := by
      intro h
      rcases h with h | h | h | h
      · obtain ⟨_, ⟨a0, a1⟩, ⟨a2, a3⟩, ⟨a4, a5⟩, a6, a7, a8, a9⟩ := h
        exact n0 a0
      · exact absurd h.1 (by simp only; decide)
      · exact absurd h.1 (by simp only; decide)
      · exact absurd h.1 (by simp only; decide)
    clear  n0 HNB HFB HSB HLM
    repeat (first | go_big_quiet_step (fail) | quiet_step (fail))
    refine wpQuiet_nil ?_
    clear k9 k10 k11 k12 k48
    refine growK_last (by kernel_rfl) (by kernel_rfl) (fun K hK => ?_)
    simp only [stepOf, List.getElem?_toArray, List.getElem?_cons_succ, List.getElem?_cons_zero]
    go_simp
    refine hK.out _ _ ?_
    clear hK K
    go_wp2_with fail
    go_ret2
    exact bodyPost_no HNO.out HA.out.below
end Go.Proofs.YthpfjgbhacdpgaaDoor
end
