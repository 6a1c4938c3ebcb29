/-
  Law 14's PacketWrites, walked.
-/
import Derived.Test.YthpfjgbhacdpgaaDoorMg24
namespace Go.Proofs.YthpfjgbhacdpgaaDoor
open Go.ChangeShapes Go.WideShapes Go.ChangeAt Go.RowKit Go.Joins
set_option linter.unusedVariables false

theorem few_parts {p : Pk} (h : fewPk p = true) : p.file.name.length ≤ 400 ∧ p.sums.length ≤ 100 ∧ p.data.length ≤ 400 := by
  unfold fewPk at h
  simp only [Bool.and_eq_true, decide_eq_true_eq] at h
  exact ⟨h.1, h.2.1, h.2.2⟩
theorem few_body {p : Pk} (hi : PkIn p) (h : pkOk p) (hf : p.sums.length ≤ 100) : (pkBody p).length ≤ 20000 := by
  unfold pkBody
  rcases h with h | h | h | h
  · rw [if_pos h.1]
    unfold mainN
    rw [List.length_append, List.length_append, wideN_len, wideN_len]
    simp
  · rw [if_neg (by rw [h.1]; decide), if_pos h.1]
    unfold fileN
    have := h.2.2.2.1
    simp only [List.length_append, wideN_len, hi.file.dgl, List.length_cons, List.length_nil]
    omega
  · rw [if_neg (by rw [h.1]; decide), if_neg (by rw [h.1]; decide), if_pos h.1]
    unfold sumsN
    rw [List.length_append, List.length_append, wideN_len, sums_len hi.sums]
    simp
    omega
  · rw [if_neg (by rw [h.1]; decide), if_neg (by rw [h.1]; decide), if_neg (by rw [h.1]; decide)]
    unfold symbolN
    have := h.2.2.2.2.2.2
    rw [List.length_append, wideN_len]
    omega

set_option maxRecDepth 1000000 in
set_option maxHeartbeats 8000000 in
theorem packetWrites_walk (p : Pk) (sa : Option Addr) (sc : Nat) (da : Option Addr) (dc : Nat) (a : Option Addr) (c : Nat) (l : List Nat) (w : World) (hp : PkAt w p sa sc da dc) (hs : Sl w a c l) (ht : Tabs w) :
    Calls Tryd.prog 3 #[.agg (rowArr 51 (pkV p sa sc da dc)), .slice a l.length c] w (TrueAnd w) := by
  have mixed : Tryd.prog.follows .mixedOrders = true := by kernel_rfl
  have hlm := hs.lt
  have hcm : c ≤ 9223372036854775807 := by have := hs.most; unfold maxLen at this; omega
  have hHB : Below w.heap.size w (w.alloc (.cells (rowArr 51 (pkV p sa sc da dc)) 30)) := (Below.refl _ _).alloc (Nat.le_refl _) _
  have HAW : Hid (∀ w' : World, Below w.heap.size w w' → Calls Tryd.prog 8 #[] w' fun e w'' => e = .returned (.bool true) ∧ Below w'.heap.size w' w'') := fun w' k => awake14_any w' (ht.below k)
  have HS := Lib.hid hs
  have HT := Lib.hid ht
  have HP := Lib.hid hp
  have HF : Hid (∀ w' : World, Below w.heap.size w w' → Calls Tryd.prog 9 #[.agg (rowArr 51 (pkV p sa sc da dc))] w' fun e w'' => e = .returned (.bool (fewPk p)) ∧ Below w'.heap.size w' w'') := fun w' k => few14_any p sa sc da dc w' (hp.below k)
  have HE : Hid (∀ w' : World, Below w.heap.size w w' → tellQ p ≤ 15000 → Calls Tryd.prog 10 #[.agg (rowArr 51 (pkV p sa sc da dc))] w' (EncPost p w')) := fun w' k hq => encode_any p sa sc da dc w' (hp.below k) hq (ht.below k)
  have HBO : Hid (∀ w' : World, Below w.heap.size w w' → p.sums.length ≤ 100 → p.data.length ≤ 400 → p.file.name.length ≤ 400 → Calls Tryd.prog 11 #[.agg (rowArr 51 (pkV p sa sc da dc))] w' (BodyPost p w')) := fun w' k q1 q2 q3 => body_any p sa sc da dc w' (hp.below k) (by omega) (by omega) (by omega)
  have HC1 : Hid ((w.alloc (.cells (rowArr 51 (pkV p sa sc da dc)) 30)).heap[w.heap.size]? = some (.cells (rowArr 51 (pkV p sa sc da dc)) 30 (0, 0))) := heap_alloc_last w _
  obtain ⟨AQ, hAQ⟩ : ∃ AQ, AQ = rowArr 51 (pkV p sa sc da dc) := ⟨_, rfl⟩
  have HQS : Hid (AQ.size = 51) := by show _ = _; rw [hAQ, rowArr_size]
  rw [← hAQ] at HC1 hHB HF HE HBO ⊢
  have HAQ := Lib.hid hAQ
  have HB1 := Lib.hid hHB
  have HA1 := Lib.hid (HAW.out _ HB1.out)
  clear hs ht hp hAQ hHB
  go_enter Tryd.func3, Tryd.ntmps3
  go_upto_region 1 with fail
  obtain ⟨B, hB⟩ : ∃ B, B = w.heap.size := ⟨_, rfl⟩
  have hwB : w.heap.size ≤ B := by omega
  rw [← hB] at HC1 ⊢
  generalize w.alloc (.cells AQ 30) = w1 at *
  clear hB
  have HX : Hid (∀ w' : World, Below w1.heap.size w1 w' → w'.heap[B]? = some (.cells AQ 30 (0, 0))) := fun w' k => ((Fr.of_below (X := fun _ => False) k).block B (Array.getElem?_eq_some_iff.1 HC1.out).1 (fun h => h)).trans HC1.out
  have HG : Hid (∀ w' : World, w'.heap[B]? = some (.cells AQ 30 (0, 0)) → ∀ j, j < 51 → w'.cell? ⟨B, 0 + j, none⟩ = some (pkV p sa sc da dc j)) := fun w' k j hj => by
    rw [HAQ.out] at k
    rw [Nat.zero_add]
    exact (Row.of_whole k).cell j hj
  have HV : Hid ((rowArr 51 fun j => pkV p sa sc da dc j) = AQ) := HAQ.out.symm
  by_cases g : fewPk p = true ∧ l.length ≤ 1000
  · obtain ⟨gf, gl⟩ := g
    obtain ⟨q1, q2, q3⟩ := few_parts gf
    have d1 : decide ((1000 : Int) < (l.length : Int)) = false := decide_eq_false (by omega)
    rw [gf] at HF
    go_upto_region 3 with (first
      | (go_at_call 8; (with_reducible refine HA1.out.mono ?_); rintro e w2 ⟨rfl, b2⟩; have HB12 := Lib.hid b2; have HC2 := Lib.hid (HX.out w2 b2); have HF2 := Lib.hid (HF.out w2 (HB1.out.trans (b2.mono HB1.out.size))); clear b2 HA1)
      | (go_at_call 9; (with_reducible refine HF2.out.mono ?_); rintro e w3 ⟨rfl, b3⟩; have HB13 : Hid (Below w1.heap.size w1 w3) := HB12.out.trans (b3.mono HB12.out.size); clear b3 HF2 HC2)
      | (refine wpList_load_v (by rfl) 30 _ rfl B 0 51 _ AQ HV.out rfl _ (HG.out _ HC2.out) Tryd.underlying30 rfl (by kernel_rfl) ?_))
    have HB3 : Hid (Below w.heap.size w w3) := HB1.out.trans (HB13.out.mono HB1.out.size)
    have HC3 := Lib.hid (HX.out w3 HB13.out)
    have HE3 := Lib.hid (HE.out w3 HB3.out (by unfold tellQ; omega))
    clear HF HE HAW HB12 d1
    by_cases ok : pkOk p
    · have HE4 : Hid (Calls Tryd.prog 10 #[.agg AQ] w3 fun e w' => (∃ a c, e = .returned (.tuple #[.slice a (pkBytes p).length c, .int .i64 0]) ∧ Sl w' a c (pkBytes p)) ∧ Below w3.heap.size w3 w') := HE3.out.mono fun e w' h => ⟨h.2.1 ok, h.1⟩
      have HOK := Lib.hid ok
      have HBL := Lib.hid (few_body HP.out.okk ok q2)
      have hpl : (pkBytes p).length = 49 + (pkBody p).length := bytes_len HP.out.okk.set8 _ _
      obtain ⟨PL, hPL⟩ : ∃ PL, PL = (pkBytes p).length := ⟨_, rfl⟩
      have HPL := Lib.hid hPL
      have hpl2 : PL ≤ 20049 := by have := HBL.out; omega
      rw [← hPL] at HE4
      clear ok HE3 hpl hPL
      go_wp2_with (refine wpList_load_row rfl 30 _ rfl B rfl 30 AQ (0, 0) _ HC3.out Tryd.underlying30 rfl (by rw [HQS.out]; kernel_rfl) ?_)
      (with_reducible refine HE4.out.mono ?_)
      rintro e w4 ⟨⟨a4, c4, rfl, hs4⟩, b4⟩
      have HB14 : Hid (Below w1.heap.size w1 w4) := HB13.out.trans (b4.mono HB13.out.size)
      have HB4 : Hid (Below w.heap.size w w4) := HB1.out.trans (HB14.out.mono HB1.out.size)
      have HC4 := Lib.hid (HX.out w4 HB14.out)
      have HS4 := Lib.hid hs4
      have HBO4 := Lib.hid (HBO.out w4 HB4.out q2 q3 q1)
      clear HE4 hs4 b4 HC3 HBO HB3 HB13
      go_wp2_with (refine wpList_load_row rfl 30 _ rfl B rfl 30 AQ (0, 0) _ HC4.out Tryd.underlying30 rfl (by rw [HQS.out]; kernel_rfl) ?_)
      (with_reducible refine HBO4.out.mono ?_)
      rintro e w5 ⟨v, ok, rfl, hok, hacc, b5⟩
      have hokt : ok = true := hok.2 HOK.out
      subst hokt
      have hac := hacc rfl
      obtain ⟨a5, c5, rfl, hs5, _⟩ := hac.own.sl (pkBody_byte HP.out.okk HOK.out)
      have HS5 := Lib.hid hs5
      have HB15 : Hid (Below w1.heap.size w1 w5) := HB14.out.trans (b5.mono HB14.out.size)
      have HB5 : Hid (Below w.heap.size w w5) := HB1.out.trans (HB15.out.mono HB1.out.size)
      have HS45 := Lib.hid (HS4.out.below b5)
      have HSL5 := Lib.hid (HS.out.below HB5.out)
      clear hok hacc hac hs5 b5 HBO4 HC4 HS4 HB14 HB4
      -- what is read again
      have HA6 : Hid (Acc w5 (w5.alloc (.cells #[] 5)) (.slice (some ⟨w5.heap.size, 0, none⟩) 0 0) []) := ⟨World.ownsRow_made w5 #[] 0 (Nat.zero_le _) (by simp) (by simp), fun j hj => by
        have : w5.heap.size = j := by simpa [Value.ownBlock] using hj
        omega, (Below.refl _ _).alloc (Nat.le_refl _) _⟩
      obtain ⟨PB, hPB⟩ : ∃ PB, PB = pkBytes p := ⟨_, rfl⟩
      have HPB := Lib.hid hPB
      rw [← hPB] at HS45 HPL
      clear hPB
      go_wp2_with (at_builtin; first
        | (refine wpList_acc _ rfl _ _ rfl (.slice (some ⟨w5.heap.size, 0, none⟩) 0 0) [] rfl HA6.out a4 c4 PL PB rfl HPL.out.symm (HS45.out.below HA6.out.below) (by rw [← HPL.out]; simp; omega) ?_; intro v6 w6 HA7; clear HA6; rw [List.nil_append] at HA7)
        | (refine wpList_acc _ rfl _ _ rfl v6 PB rfl HA7.out a c l.length l rfl rfl (HSL5.out.below HA7.out.below) (by rw [← HPL.out]; omega) ?_; intro v7 w7 HA8; clear HA7))
      have HDN := Lib.hid (HA8.out.own)
      have hpb : IsByte (PB ++ l) := fun x hx => (List.mem_append.1 hx).elim (HS45.out.byte x) (HS.out.byte x)
      obtain ⟨a7, c7, rfl, hs7, _⟩ := HDN.out.sl hpb
      have HB57 : Hid (Below w5.heap.size w5 w7) := HA8.out.below
      have HB17 : Hid (Below w1.heap.size w1 w7) := HB15.out.trans (HA8.out.below.mono HB15.out.size)
      have HB7 : Hid (Below w.heap.size w w7) := HB1.out.trans (HB17.out.mono HB1.out.size)
      have hdc : decN (PB ++ l) = .ok p PL := by
        have h := dec_begins hpb (by rw [HPB.out]; exact begins_self HP.out.okk HOK.out l)
        rw [h, HPL.out, HPB.out]
      have HD : Hid (Calls Tryd.prog 12 #[.slice a7 (PB ++ l).length c7] w7 fun e w' => (∃ sa sc da dc, e = .returned (.tuple #[.agg (rowArr 51 (pkV p sa sc da dc)), .int .i64 (PL : Int), .int .i64 0]) ∧ PkAt w' p sa sc da dc) ∧ Below w7.heap.size w7 w') := (decode_any a7 c7 (PB ++ l) w7 hs7 (by rw [List.length_append, ← HPL.out]; omega) (HT.out.below HB7.out)).mono fun e w' h => by
        unfold DecPost at h
        rw [hdc] at h
        exact h
      clear HDN hs7 hdc hpb HA8
      (with_reducible refine HD.out.mono ?_)
      rintro e w8 ⟨⟨sa', sc', da', dc', rfl, hpk⟩, b8⟩
      have HB18 : Hid (Below w1.heap.size w1 w8) := HB17.out.trans (b8.mono HB17.out.size)
      have HB58 : Hid (Below w5.heap.size w5 w8) := HB57.out.trans (b8.mono HB57.out.size)
      have HPK8 := Lib.hid hpk
      obtain ⟨AX, hAX⟩ : ∃ AX, AX = rowArr 51 (pkV p sa' sc' da' dc') := ⟨_, rfl⟩
      rw [← hAX]
      have HAX := Lib.hid hAX
      have HX1 : Hid (AX.all (·.oneCell') = true) := by show _ = _; rw [hAX]; exact oneCell_pk _ _ _ _ _
      have HXS : Hid (AX.size = 51) := by show _ = _; rw [hAX, rowArr_size]
      have HALL : Hid (∀ c : Array Value, (w8.alloc (.cells c 30)).heap[w8.heap.size]? = some (.cells c 30 (0, 0))) := fun c => heap_alloc_last w8 _
      have HALB : Hid (∀ c : Array Value, Below w8.heap.size w8 (w8.alloc (.cells c 30))) := fun c => (Below.refl _ _).alloc (Nat.le_refl _) _
      clear HD b8 hpk hAX HB17 HB7
      go_upto_region 8 with (refine wpList_store_arr rfl 30 _ _ rfl w8.heap.size AX rfl rfl 30 _ (HALL.out _) (by rw [HXS.out]; kernel_rfl) (by rw [HXS.out]; rfl) HX1.out ?_; intro w9 HC9 hf9; have HB89 : Hid (Below w8.heap.size w8 w9) := (HALB.out _).trans (hf9.out.below (HALB.out _).size (fun k hk e => by omega)); clear hf9 HALL HALB)
      obtain ⟨xb, hxb⟩ : ∃ xb, xb = w8.heap.size := ⟨_, rfl⟩
      rw [← hxb] at HC9 ⊢
      have HB19 : Hid (Below w1.heap.size w1 w9) := HB18.out.trans (HB89.out.mono HB18.out.size)
      have HB9 : Hid (Below w.heap.size w w9) := HB1.out.trans (HB19.out.mono HB1.out.size)
      have HPK9 := Lib.hid (HPK8.out.below HB89.out)
      have HR9 : Hid (Row w9 xb 30 51 51 (pkV p sa' sc' da' dc')) := Row.of_whole (by have := HC9.out; rw [HAX.out] at this; exact this)
      have HP9 : Hid (Row w9 B 30 51 51 (pkV p sa sc da dc)) := Row.of_whole (by have := HX.out w9 HB19.out; rw [HAQ.out] at this; exact this)
      have HXV : Hid ((rowArr 51 fun j => pkV p sa' sc' da' dc' j) = AX) := HAX.out.symm
      have HB59 : Hid (Below w5.heap.size w5 w9) := HB58.out.trans (HB89.out.mono HB58.out.size)
      clear HPK8 HB18 HB89 hxb HC9 HB58 HB57
      obtain ⟨wd, hwd⟩ : ∃ wd, wd = w9.drew := ⟨_, rfl⟩
      have HBd : Hid (Below w9.heap.size w9 wd) := by rw [hwd]; exact (Below.refl _ _).drew
      have HB9d : Hid (Below w.heap.size w wd) := HB9.out.trans (HBd.out.mono HB9.out.size)
      have HB5d : Hid (Below w5.heap.size w5 wd) := HB59.out.trans (HBd.out.mono HB59.out.size)
      have HRp : Hid (Row wd B 30 51 51 (pkV p sa sc da dc)) := HP9.out.fr (X := fun _ => False) (Fr.of_below HBd.out) (fun h => h)
      have HRx : Hid (Row wd xb 30 51 51 (pkV p sa' sc' da' dc')) := HR9.out.fr (X := fun _ => False) (Fr.of_below HBd.out) (fun h => h)
      have HPKx := Lib.hid (HPK9.out.below HBd.out)
      have HPKp := Lib.hid (HP.out.below HB9d.out)
      have k8 : ∀ u : KeepW wd fun _ => False, u.v.cell? ⟨B, 8, none⟩ = some (.int .i64 p.kind) := fun u => (u.cell HRp.out.lt (fun h => h)).trans (HRp.out.cell 8 (by omega))
      have KP : Hid (∀ w, (∃ u : KeepW wd (fun _ => False), w = u.v) → ∀ j, j < 8 → w.cell? ⟨B, 0 + j, none⟩ = some (vOf p.set j)) := fun w hw j hj => by
        obtain ⟨u, rfl⟩ := hw
        rw [u.cell HRp.out.lt (fun h => h)]
        exact arr8_cells HRp.out j hj
      have KB : Hid (∀ w, (∃ u : KeepW wd (fun _ => False), w = u.v) → ∀ j, j < 51 → w.cell? ⟨B, 0 + j, none⟩ = some (pkV p sa sc da dc j)) := fun w hw j hj => by
        obtain ⟨u, rfl⟩ := hw
        rw [u.cell HRp.out.lt (fun h => h), Nat.zero_add]
        exact HRp.out.cell j hj
      have KX : Hid (∀ w, (∃ u : KeepW wd (fun _ => False), w = u.v) → ∀ j, j < 51 → w.cell? ⟨xb, 0 + j, none⟩ = some (pkV p sa' sc' da' dc' j)) := fun w hw j hj => by
        obtain ⟨u, rfl⟩ := hw
        rw [u.cell HRx.out.lt (fun h => h), Nat.zero_add]
        exact HRx.out.cell j hj
      have HSd := Lib.hid (HS45.out.below HB5d.out)
      obtain ⟨SS, hSS⟩ : ∃ SS, SS = strOf PB := ⟨_, rfl⟩
      have kcv : ∀ u : KeepW wd fun _ => False, (convert 28 9 (.slice a4 PL c4)).run Tryd.prog u.v = .ok (.string SS) u.v := fun u => by
        have h := conv_sl u.v a4 c4 PB (HSd.out.below (u.h.below (Nat.le_refl _) (fun _ _ h => h)))
        rw [← HPL.out, ← hSS] at h
        exact h
      have dLL : ((PL : Int) == (PL : Int)) = true := beq_self_eq_true _
      obtain ⟨A3, hA3⟩ : ∃ A3, A3 = rowArr 8 (vOf p.set) := ⟨_, rfl⟩
      have V3 : Hid (rowArr 8 (vOf p.set) = A3) := hA3.symm
      have HBY := Lib.hid (refBytes_any p.set p.kind a5 c5 (pkBody p) wd HP.out.okk.set8 HP.out.okk.setb HP.out.okk.kind (HS5.out.below HB5d.out) HBL.out)
      rw [← hA3] at HBY
      have HSE := Lib.hid hSS
      obtain ⟨L6, hL6⟩ : ∃ L6, L6 = (pkBody p).length := ⟨_, rfl⟩
      rw [← hL6] at HBY ⊢
      clear hA3 hSS hL6 HR9 HP9 HPK9 HB19 HB59
      refine growK_begin 29 (fun w' => ∃ u : KeepW wd (fun _ => False), w' = u.v) (by kernel_rfl) ?_
      rw [← hwd]
      clear hwd
      refine growK_take (by kernel_rfl) [0, 1, 2, 3, 4, 5, 6, 7, 8, 9] 20 _ _ (by kernel_rfl) _ (keep_class (Fr.refl _ _)) ?_
      simp only [opsAt, List.getElem?_toArray, List.getElem?_cons_succ, List.getElem?_cons_zero]
      repeat (first
        | (refine wpQuiet_load_v (by rfl) 22 _ rfl B 0 8 _ A3 V3.out rfl _ KP.out Tryd.underlying22 rfl (by kernel_rfl) ?_)
        | go_big_quiet_step (fail) | quiet_step (fail))
      refine wpQuiet_nil ?_
      clear k8 KP kcv V3
      refine growK_one 10 (by kernel_rfl) (fun K hK => ?_)
      simp only [stepOf, List.getElem?_toArray, List.getElem?_cons_succ, List.getElem?_cons_zero]
      go_simp
      go_at_call 13
      (with_reducible refine HBY.out.mono ?_)
      rintro e w10 ⟨v10, rfl, ha10⟩
      have hE : bytesN p.set p.kind (pkBody p) = PB := HPB.out.symm
      rw [hE] at ha10
      obtain ⟨a11, c11, rfl, hs11, _⟩ := ha10.own.sl HS45.out.byte
      have hcv11 := conv_sl w10 a11 c11 _ hs11
      rw [← HSE.out] at hcv11
      have HB10 : Hid (Below w.heap.size w w10) := HB9d.out.trans (ha10.below.mono HB9d.out.size)
      have HF10 : Hid (Fr (fun _ => False) wd w10) := Fr.of_below ha10.below
      have HSM := Lib.hid (same_any p sa' sc' da' dc' sa sc da dc w10 (HPKx.out.below ha10.below) (HPKp.out.below ha10.below))
      rw [← HAX.out, ← HAQ.out] at HSM
      refine hK.out _ _ (keep_class HF10.out) ?_
      clear hK K ha10 hs11 HBY hE
      rw [← HPL.out] at hcv11 ⊢
      refine growK_one 11 (by kernel_rfl) (fun K hK => ?_)
      simp only [stepOf, List.getElem?_toArray, List.getElem?_cons_succ, List.getElem?_cons_zero]
      go_simp
      refine hK.out _ _ (keep_class HF10.out) ?_
      clear hK K hcv11
      refine growK_take (by kernel_rfl) [12, 13, 14, 15, 16, 17, 18, 19, 20, 21, 22, 23, 24, 25, 26] 3 _ _ (by kernel_rfl) _ (keep_class HF10.out) ?_
      simp only [opsAt, List.getElem?_toArray, List.getElem?_cons_succ, List.getElem?_cons_zero]
      repeat (first
        | (refine wpQuiet_load_v (by rfl) 30 _ rfl xb 0 51 _ AX HXV.out rfl _ KX.out Tryd.underlying30 rfl (by kernel_rfl) ?_)
        | (refine wpQuiet_load_v (by rfl) 30 _ rfl B 0 51 _ AQ HV.out rfl _ KB.out Tryd.underlying30 rfl (by kernel_rfl) ?_)
        | go_big_quiet_step (fail) | quiet_step (fail))
      refine wpQuiet_nil ?_
      refine growK_one 27 (by kernel_rfl) (fun K hK => ?_)
      simp only [stepOf, List.getElem?_toArray, List.getElem?_cons_succ, List.getElem?_cons_zero]
      go_simp
      go_at_call 14
      (with_reducible refine HSM.out.mono ?_)
      rintro e w11 ⟨rfl, b11⟩
      have HB11 : Hid (Below w.heap.size w w11) := HB10.out.trans (b11.mono HB10.out.size)
      have HF11 : Hid (Fr (fun _ => False) wd w11) := HF10.out.trans (Fr.of_below b11)
      refine hK.out _ _ (keep_class HF11.out) ?_
      clear hK K b11 HSM
      refine growK_take (by kernel_rfl) [28] 1 _ _ (by kernel_rfl) _ (keep_class HF11.out) ?_
      simp only [opsAt, List.getElem?_toArray, List.getElem?_cons_succ, List.getElem?_cons_zero]
      repeat (first | go_big_quiet_step (fail) | quiet_step (fail))
      refine wpQuiet_nil ?_
      refine growK_last (by kernel_rfl) (by kernel_rfl) (fun K hK => ?_)
      simp only [stepOf, List.getElem?_toArray, List.getElem?_cons_succ, List.getElem?_cons_zero]
      go_simp
      refine hK.out _ _ ?_
      clear hK K
      go_wp2_with fail
      go_ret
      exact ⟨rfl, HB11.out⟩
    · have HE4 : Hid (Calls Tryd.prog 10 #[.agg AQ] w3 fun e w' => e = .returned (.tuple #[.slice none 0 0, .int .i64 1]) ∧ Below w3.heap.size w3 w') := HE3.out.mono fun e w' h => ⟨h.2.2 ok, h.1⟩
      have HOK := Lib.hid ok
      clear ok HE3
      go_wp2_with (refine wpList_load_row rfl 30 _ rfl B rfl 30 AQ (0, 0) _ HC3.out Tryd.underlying30 rfl (by rw [HQS.out]; kernel_rfl) ?_)
      (with_reducible refine HE4.out.mono ?_)
      rintro e w4 ⟨rfl, b4⟩
      have HB14 : Hid (Below w1.heap.size w1 w4) := HB13.out.trans (b4.mono HB13.out.size)
      have HB4 : Hid (Below w.heap.size w w4) := HB1.out.trans (HB14.out.mono HB1.out.size)
      have HC4 := Lib.hid (HX.out w4 HB14.out)
      have HBO4 := Lib.hid (HBO.out w4 HB4.out q2 q3 q1)
      clear HE4 b4 HC3 HBO HB3 HB13
      go_wp2_with (refine wpList_load_row rfl 30 _ rfl B rfl 30 AQ (0, 0) _ HC4.out Tryd.underlying30 rfl (by rw [HQS.out]; kernel_rfl) ?_)
      (with_reducible refine HBO4.out.mono ?_)
      rintro e w5 ⟨v, ok, rfl, hok, -, b5⟩
      have HB5 : Hid (Below w.heap.size w w5) := HB4.out.trans (b5.mono HB4.out.size)
      have hokf : ok = false := by
        cases hh : ok with
        | false => rfl
        | true => exact absurd (hok.1 hh) HOK.out
      subst hokf
      clear hok b5 HBO4 HC4
      go_wp2_with fail
      go_ret
      exact ⟨rfl, HB5.out⟩
  · by_cases gf : fewPk p = true
    · have d1 : decide ((1000 : Int) < (l.length : Int)) = true := decide_eq_true (by have : ¬ l.length ≤ 1000 := fun h => g ⟨gf, h⟩; omega)
      rw [gf] at HF
      go_upto_region 2 with (first
        | (go_at_call 8; (with_reducible refine HA1.out.mono ?_); rintro e w2 ⟨rfl, b2⟩; have HB12 := Lib.hid b2; have HC2 := Lib.hid (HX.out w2 b2); have HF2 := Lib.hid (HF.out w2 (HB1.out.trans (b2.mono HB1.out.size))); clear b2 HA1)
        | (go_at_call 9; (with_reducible refine HF2.out.mono ?_); rintro e w3 ⟨rfl, b3⟩; have HB13 : Hid (Below w1.heap.size w1 w3) := HB12.out.trans (b3.mono HB12.out.size); clear b3 HF2 HC2)
        | (refine wpList_load_v (by rfl) 30 _ rfl B 0 51 _ AQ HV.out rfl _ (HG.out _ HC2.out) Tryd.underlying30 rfl (by kernel_rfl) ?_))
      have HB3 : Hid (Below w.heap.size w w3) := HB1.out.trans (HB13.out.mono HB1.out.size)
      have HA3 := Lib.hid (HAW.out w3 HB3.out)
      go_wp2_with fail
      (with_reducible refine HA3.out.mono ?_)
      rintro e w4 ⟨rfl, b4⟩
      have HB4 : Hid (Below w.heap.size w w4) := HB3.out.trans (b4.mono HB3.out.size)
      clear HA3 b4
      go_wp2_with fail
      go_ret
      exact ⟨rfl, HB4.out⟩
    · have hgf : fewPk p = false := by simpa using gf
      rw [hgf] at HF
      go_upto_region 2 with (first
        | (go_at_call 8; (with_reducible refine HA1.out.mono ?_); rintro e w2 ⟨rfl, b2⟩; have HB12 := Lib.hid b2; have HC2 := Lib.hid (HX.out w2 b2); have HF2 := Lib.hid (HF.out w2 (HB1.out.trans (b2.mono HB1.out.size))); clear b2 HA1)
        | (go_at_call 9; (with_reducible refine HF2.out.mono ?_); rintro e w3 ⟨rfl, b3⟩; have HB13 : Hid (Below w1.heap.size w1 w3) := HB12.out.trans (b3.mono HB12.out.size); clear b3 HF2 HC2)
        | (refine wpList_load_v (by rfl) 30 _ rfl B 0 51 _ AQ HV.out rfl _ (HG.out _ HC2.out) Tryd.underlying30 rfl (by kernel_rfl) ?_))
      have HB3 : Hid (Below w.heap.size w w3) := HB1.out.trans (HB13.out.mono HB1.out.size)
      have HA3 := Lib.hid (HAW.out w3 HB3.out)
      go_wp2_with fail
      (with_reducible refine HA3.out.mono ?_)
      rintro e w4 ⟨rfl, b4⟩
      have HB4 : Hid (Below w.heap.size w w4) := HB3.out.trans (b4.mono HB3.out.size)
      clear HA3 b4
      go_wp2_with fail
      go_ret
      exact ⟨rfl, HB4.out⟩
end Go.Proofs.YthpfjgbhacdpgaaDoor
