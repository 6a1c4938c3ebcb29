/-
  Law 14's PacketReads, walked.
  What the listed tables of package sum give, where start and rounds alone are listed; the heap of the door's own run meets the condition.
-/
import Derived.Test.YthpfjgbhacdpgaaDoorMg23
import Derived.Test.YthpfjgbhacdpgaaDoorTie
import Derived.Test.YthpfjgbhacdpgaaDoorCards
import Derived.SevenTiedAt
import Derived.LaidMore
import Derived.Stop.Joined
import Derived.SizedLaws
import Derived.ChangeOld
section
namespace Go.Proofs.YthpfjgbhacdpgaaDoor
open Go.ChangeShapes Go.WideShapes Go.ChangeAt Go.RowKit Go.Joins
set_option linter.unusedVariables false

theorem begins_small {l : List Nat} {q : Pk} {n : Nat} (h : Begins l q n) {m : Nat} (hm : l.length ≤ m) : q.file.name.length < 256 ∧ q.sums.length ≤ m ∧ q.data.length ≤ 256 ∧ (pkBody q).length ≤ m := by
  obtain ⟨hi, ho, hn, r, e⟩ := h
  have hl : (pkBytes q).length ≤ m := by
    have := congrArg List.length e
    rw [List.length_append] at this
    omega
  unfold pkBytes at hl
  rw [bytes_len hi.set8] at hl
  refine ⟨?_, ?_, ?_, by omega⟩
  · rcases ho with o | o | o | o
    · rw [o.2.2.2.2.2.1]; simp [zFil]
    · exact o.2.2.2.1
    · rw [o.2.2.1]; simp [zFil]
    · rw [o.2.2.1]; simp [zFil]
  · rcases ho with o | o | o | o
    · rw [o.2.2.2.2.2.2.1]; simp
    · rw [o.2.2.2.2.2.2.1]; simp
    · unfold pkBody at hl
      rw [if_neg (by rw [o.1]; decide), if_neg (by rw [o.1]; decide), if_pos o.1] at hl
      unfold sumsN at hl
      rw [List.length_append, List.length_append, wideN_len, sums_len hi.sums] at hl
      simp only [List.length_cons, List.length_nil] at hl
      omega
    · rw [o.2.2.2.2.1]; simp
  · rcases ho with o | o | o | o
    · rw [o.2.2.2.2.2.2.2.2]; simp
    · rw [o.2.2.2.2.2.2.2.2]; simp
    · rw [o.2.2.2.1.2]; simp
    · exact o.2.2.2.2.2.2
theorem begins_sums {l : List Nat} {q : Pk} {n : Nat} (h : Begins l q n) {m : Nat} (hm : l.length ≤ m) : 38 * q.sums.length ≤ m := by
  obtain ⟨hi, ho, hn, r, e⟩ := h
  have hl : (pkBytes q).length ≤ m := by
    have := congrArg List.length e
    rw [List.length_append] at this
    omega
  unfold pkBytes at hl
  rw [bytes_len hi.set8] at hl
  rcases ho with o | o | o | o
  · rw [o.2.2.2.2.2.2.1]; simp
  · rw [o.2.2.2.2.2.2.1]; simp
  · unfold pkBody at hl
    rw [if_neg (by rw [o.1]; decide), if_neg (by rw [o.1]; decide), if_pos o.1] at hl
    unfold sumsN at hl
    rw [List.length_append, List.length_append, wideN_len, sums_len hi.sums] at hl
    simp only [List.length_cons, List.length_nil] at hl
    omega
  · rw [o.2.2.2.2.1]; simp
theorem wideN_isByte (v n : Nat) : IsByte (wideN v n) := wideN_byte n v
theorem pkBody_byte {p : Pk} (hi : PkIn p) (ho : pkOk p) : IsByte (pkBody p) := by
  have hu : ∀ z : Int, u8N z < 256 := u8N_lt
  unfold pkBody
  split
  · unfold mainN
    intro x hx
    simp only [List.mem_append, List.mem_singleton] at hx
    rcases hx with (hx | hx) | hx
    · exact wideN_byte _ _ x hx
    · rw [hx]; exact hu _
    · exact wideN_byte _ _ x hx
  · split
    · unfold fileN
      intro x hx
      simp only [List.mem_append, List.mem_cons, List.not_mem_nil, or_false] at hx
      rcases hx with (((hx | hx) | hx) | hx) | hx
      · rcases hx with hx | hx <;> rw [hx] <;> exact hu _
      · exact hi.file.byte x hx
      · exact wideN_byte _ _ x hx
      · exact hi.file.dgb x hx
      · exact wideN_byte _ _ x hx
    · split
      · unfold sumsN
        intro x hx
        simp only [List.mem_append, List.mem_singleton, List.mem_flatten, List.mem_map] at hx
        rcases hx with (hx | hx) | ⟨y, ⟨z, hz, rfl⟩, hx⟩
        · rw [hx]; exact hu _
        · exact wideN_byte _ _ x hx
        · unfold sumN at hx
          simp only [List.mem_append] at hx
          rcases hx with (hx | hx) | hx
          · exact wideN_byte _ _ x hx
          · exact wideN_byte _ _ x hx
          · exact (hi.sums z hz).2.2.2 x hx
      · unfold symbolN
        intro x hx
        rcases List.mem_append.1 hx with hx | hx
        · exact wideN_byte _ _ x hx
        · exact hi.data x hx

set_option maxRecDepth 1000000 in
set_option maxHeartbeats 8000000 in
theorem packetReads_walk (a : Option Addr) (c : Nat) (l : List Nat) (w : World) (hs : Sl w a c l) (ht : Tabs w) :
    Calls Tryd.prog 4 #[.slice a l.length c] w (TrueAnd w) := by
  have mixed : Tryd.prog.follows .mixedOrders = true := by kernel_rfl
  have hlm := hs.lt
  have hcm : c ≤ 9223372036854775807 := by have := hs.most; unfold maxLen at this; omega
  have HAW : Hid (∀ w' : World, Below w.heap.size w w' → Calls Tryd.prog 8 #[] w' fun e w'' => e = .returned (.bool true) ∧ Below w'.heap.size w' w'') := fun w' k => awake14_any w' (ht.below k)
  have HS := Lib.hid hs
  have HT := Lib.hid ht
  clear hs ht
  have HA0 := Lib.hid (HAW.out w (Below.refl _ _))
  by_cases g : l.length ≤ 20000
  · have d1 : decide ((20000 : Int) < (l.length : Int)) = false := decide_eq_false (by omega)
    go_enter Tryd.func4, Tryd.ntmps4
    go_upto_region 3 with (go_at_call 8; (with_reducible refine HA0.out.mono ?_); rintro e w1 ⟨rfl, b1⟩; have HB1 := Lib.hid b1; clear b1 HA0)
    have HD := Lib.hid (decode_any a c l w1 (HS.out.below HB1.out) (by omega) (HT.out.below HB1.out))
    have HSB := Lib.hid HS.out.byte
    cases hd : decN l with
    | ok q n =>
      have hbg := dec_ok HSB.out hd
      have HBG := Lib.hid hbg
      have HD2 : Hid (Calls Tryd.prog 12 #[.slice a l.length c] w1 fun e w' => (∃ sa sc da dc, e = .returned (.tuple #[.agg (rowArr 51 (pkV q sa sc da dc)), .int .i64 (n : Int), .int .i64 0]) ∧ PkAt w' q sa sc da dc) ∧ Below w1.heap.size w1 w') := HD.out.mono fun e w' h => by
        unfold DecPost at h
        rw [hd] at h
        exact h
      clear HD hd hbg d1 HAW
      go_wp2_with fail
      (with_reducible refine HD2.out.mono ?_)
      rintro e w2 ⟨⟨sa, sc, da, dc, rfl, hpk⟩, b2⟩
      have HB2 : Hid (Below w.heap.size w w2) := HB1.out.trans (b2.mono HB1.out.size)
      have HPK2 := Lib.hid hpk
      obtain ⟨AQ, hAQ⟩ : ∃ AQ, AQ = rowArr 51 (pkV q sa sc da dc) := ⟨_, rfl⟩
      rw [← hAQ]
      have HAQ := Lib.hid hAQ
      have HQ1 : Hid (AQ.all (·.oneCell') = true) := by show _ = _; rw [hAQ]; exact oneCell_pk _ _ _ _ _
      have HQS : Hid (AQ.size = 51) := by show _ = _; rw [hAQ, rowArr_size]
      have HALL : Hid (∀ c : Array Value, (w2.alloc (.cells c 30)).heap[w2.heap.size]? = some (.cells c 30 (0, 0))) := fun c => heap_alloc_last w2 _
      have HALB : Hid (∀ c : Array Value, Below w2.heap.size w2 (w2.alloc (.cells c 30))) := fun c => (Below.refl _ _).alloc (Nat.le_refl _) _
      clear HD2 b2 hpk hAQ HB1
      go_upto_region 6 with (refine wpList_store_arr rfl 30 _ _ rfl w2.heap.size AQ rfl rfl 30 _ (HALL.out _) (by rw [HQS.out]; kernel_rfl) (by rw [HQS.out]; rfl) HQ1.out ?_; intro w3 HC3 hf3; have HB23 : Hid (Below w2.heap.size w2 w3) := (HALB.out _).trans (hf3.out.below (HALB.out _).size (fun k hk e => by omega)); clear hf3 HALL HALB)
      obtain ⟨pb, hpb⟩ : ∃ pb, pb = w2.heap.size := ⟨_, rfl⟩
      rw [← hpb] at HC3 ⊢
      have HB3 : Hid (Below w.heap.size w w3) := HB2.out.trans (HB23.out.mono HB2.out.size)
      have HPK3 := Lib.hid (HPK2.out.below HB23.out)
      have HR3 : Hid (Row w3 pb 30 51 51 (pkV q sa sc da dc)) := Row.of_whole (by have := HC3.out; rw [HAQ.out] at this; exact this)
      obtain ⟨g1, g2, g3, g4⟩ := begins_small HBG.out g
      have HSM : Hid (q.sums.length ≤ 1000) := by
        have h5 := begins_sums HBG.out g
        show _ ≤ _
        omega
      have HBD := Lib.hid (body_any q sa sc da dc w3 HPK3.out HSM.out (by omega) (by omega))
      rw [← HAQ.out] at HBD
      clear HPK2 HB2 HB23 hpb HSM
      go_wp2_with (refine wpList_load_row rfl 30 _ rfl pb rfl 30 AQ (0, 0) _ HC3.out Tryd.underlying30 rfl (by rw [HQS.out]; kernel_rfl) ?_)
      (with_reducible refine HBD.out.mono ?_)
      rintro e w4 ⟨v, ok, rfl, hok, hacc, b4⟩
      have hokt : ok = true := hok.2 HBG.out.2.1
      subst hokt
      have hac := hacc rfl
      obtain ⟨a6, c6, rfl, hs6, _⟩ := hac.own.sl (pkBody_byte HBG.out.1 HBG.out.2.1)
      have HS6 := Lib.hid hs6
      have HB4 : Hid (Below w.heap.size w w4) := HB3.out.trans (b4.mono HB3.out.size)
      have HR4 : Hid (Row w4 pb 30 51 51 (pkV q sa sc da dc)) := HR3.out.fr (X := fun _ => False) (Fr.of_below b4) (fun h => h)
      clear hok hacc hac hs6 b4 HBD HB3 HPK3 HR3 HC3
      go_upto_region 7 with fail
      obtain ⟨wd, hwd⟩ : ∃ wd, wd = w4.drew := ⟨_, rfl⟩
      have HBd : Hid (Below w4.heap.size w4 wd) := by rw [hwd]; exact (Below.refl _ _).drew
      have HB4d : Hid (Below w.heap.size w wd) := HB4.out.trans (HBd.out.mono HB4.out.size)
      have HRd : Hid (Row wd pb 30 51 51 (pkV q sa sc da dc)) := HR4.out.fr (X := fun _ => False) (Fr.of_below HBd.out) (fun h => h)
      have k8 : ∀ u : KeepW wd fun _ => False, u.v.cell? ⟨pb, 8, none⟩ = some (.int .i64 q.kind) := fun u => (u.cell HRd.out.lt (fun h => h)).trans (HRd.out.cell 8 (by omega))
      have KP : Hid (∀ w, (∃ u : KeepW wd (fun _ => False), w = u.v) → ∀ j, j < 8 → w.cell? ⟨pb, 0 + j, none⟩ = some (vOf q.set j)) := fun w hw j hj => by
        obtain ⟨u, rfl⟩ := hw
        rw [u.cell HRd.out.lt (fun h => h)]
        exact arr8_cells HRd.out j hj
      obtain ⟨n1, n2, n3⟩ := begins_le HBG.out
      have HSd := Lib.hid (HS.out.below HB4d.out)
      have hcf := cut_front HSd.out n n1
      obtain ⟨SS, hSS⟩ : ∃ SS, SS = strOf (pkBytes q) := ⟨_, rfl⟩
      have hln : (l.take n).length = n := by rw [List.length_take]; omega
      have kcv : ∀ u : KeepW wd fun _ => False, (convert 28 9 (.slice a n c)).run Tryd.prog u.v = .ok (.string SS) u.v := fun u => by
        have h := conv_sl u.v a c (l.take n) ((HSd.out.below (u.h.below (Nat.le_refl _) (fun _ _ h => h))).front n)
        rw [hln, n3, ← hSS] at h
        exact h
      have d3 : decide ((n : Int) ≤ (l.length : Int)) = true := decide_eq_true (by omega)
      have hnz : (n : Int) ≤ (l.length : Int) := by omega
      obtain ⟨A3, hA3⟩ : ∃ A3, A3 = rowArr 8 (vOf q.set) := ⟨_, rfl⟩
      have V3 : Hid (rowArr 8 (vOf q.set) = A3) := hA3.symm
      have HBY := Lib.hid (refBytes_any q.set q.kind a6 c6 (pkBody q) wd HBG.out.1.set8 HBG.out.1.setb HBG.out.1.kind (HS6.out.below HBd.out) g4)
      rw [← hA3] at HBY
      have HSE := Lib.hid hSS
      obtain ⟨L6, hL6⟩ : ∃ L6, L6 = (pkBody q).length := ⟨_, rfl⟩
      rw [← hL6] at HBY ⊢
      have HPO : Hid (IsByte (pkBytes q)) := by
        show IsByte _
        rw [← n3]
        exact (HSd.out.front n).byte
      clear hA3 hSS hL6 hln n3 HB4 HR4
      refine growK_begin 21 (fun w' => ∃ u : KeepW wd (fun _ => False), w' = u.v) (by kernel_rfl) ?_
      rw [← hwd]
      clear hwd
      refine growK_take (by kernel_rfl) [0, 1, 2, 3, 4, 5, 6, 7, 8, 9, 10, 11, 12, 15, 16, 17, 18] 5 _ _ (by kernel_rfl) _ (keep_class (Fr.refl _ _)) ?_
      simp only [opsAt, List.getElem?_toArray, List.getElem?_cons_succ, List.getElem?_cons_zero]
      repeat (first
        | (refine wpQuiet_load_v (by rfl) 22 _ rfl pb 0 8 _ A3 V3.out rfl _ KP.out Tryd.underlying22 rfl (by kernel_rfl) ?_)
        | go_big_quiet_step (fail) | quiet_step (fail))
      refine wpQuiet_nil ?_
      clear k8 KP kcv V3 hcf
      refine growK_one 13 (by kernel_rfl) (fun K hK => ?_)
      simp only [stepOf, List.getElem?_toArray, List.getElem?_cons_succ, List.getElem?_cons_zero]
      go_simp
      go_at_call 13
      (with_reducible refine HBY.out.mono ?_)
      rintro e w5 ⟨v5, rfl, ha5⟩
      obtain ⟨a7, c7, rfl, hs7, _⟩ := ha5.own.sl HPO.out
      have hcv7 := conv_sl w5 a7 c7 _ hs7
      have hE : bytesN q.set q.kind (pkBody q) = pkBytes q := rfl
      rw [hE, ← HSE.out] at hcv7
      have HB5 : Hid (Below w.heap.size w w5) := HB4d.out.trans (ha5.below.mono HB4d.out.size)
      have HF5 : Hid (Fr (fun _ => False) wd w5) := Fr.of_below ha5.below
      rw [hE]
      refine hK.out _ _ (keep_class HF5.out) ?_
      clear hK K ha5 hs7 HBY
      obtain ⟨L7, hL7⟩ : ∃ L7, L7 = (pkBytes q).length := ⟨_, rfl⟩
      rw [← hL7] at hcv7 ⊢
      clear hL7 hE
      refine growK_one 14 (by kernel_rfl) (fun K hK => ?_)
      simp only [stepOf, List.getElem?_toArray, List.getElem?_cons_succ, List.getElem?_cons_zero]
      go_simp
      refine hK.out _ _ (keep_class HF5.out) ?_
      clear hK K hcv7
      refine growK_take (by kernel_rfl) [19, 20] 1 _ _ (by kernel_rfl) _ (keep_class HF5.out) ?_
      simp only [opsAt, List.getElem?_toArray, List.getElem?_cons_succ, List.getElem?_cons_zero]
      repeat (first | go_big_quiet_step (fail) | quiet_step (fail))
      refine wpQuiet_nil ?_
      refine growK_last (by kernel_rfl) (by kernel_rfl) (fun K hK => ?_)
      simp only [stepOf, List.getElem?_toArray, List.getElem?_cons_succ, List.getElem?_cons_zero]
      go_simp
      refine hK.out _ _ ?_
      clear hK K
      go_wp2_with fail
      go_ret
      exact ⟨rfl, HB5.out⟩
    | form =>
      obtain ⟨ZA, hZA⟩ : ∃ ZA, ZA = rowArr 51 (pkV zPk none 0 none 0) := ⟨_, rfl⟩
      have HQ1 : Hid (ZA.all (·.oneCell') = true) := by show _ = _; rw [hZA]; exact oneCell_pk _ _ _ _ _
      have HQS : Hid (ZA.size = 51) := by show _ = _; rw [hZA, rowArr_size]
      have HD2 : Hid (Calls Tryd.prog 12 #[.slice a l.length c] w1 fun e w' => e = .returned (.tuple #[.agg ZA, .int .i64 0, .int .i64 2]) ∧ Below w1.heap.size w1 w') := HD.out.mono fun e w' h => by
        unfold DecPost at h
        rw [hd] at h
        rw [hZA]
        exact h
      have HZA := Lib.hid hZA
      clear HD hd HAW d1 hZA
      go_wp2_with fail
      (with_reducible refine HD2.out.mono ?_)
      rintro e w2 ⟨rfl, b2⟩
      have HB2 : Hid (Below w.heap.size w w2) := HB1.out.trans (b2.mono HB1.out.size)
      have HALL : Hid (∀ c : Array Value, (w2.alloc (.cells c 30)).heap[w2.heap.size]? = some (.cells c 30 (0, 0))) := fun c => heap_alloc_last w2 _
      have HALB : Hid (∀ c : Array Value, Below w2.heap.size w2 (w2.alloc (.cells c 30))) := fun c => (Below.refl _ _).alloc (Nat.le_refl _) _
      clear HD2 b2 HB1
      go_upto_region 5 with (refine wpList_store_arr rfl 30 _ _ rfl w2.heap.size ZA rfl rfl 30 _ (HALL.out _) (by rw [HQS.out]; kernel_rfl) (by rw [HQS.out]; rfl) HQ1.out ?_; intro w3 HC3 hf3; have HB23 : Hid (Below w2.heap.size w2 w3) := (HALB.out _).trans (hf3.out.below (HALB.out _).size (fun k hk e => by omega)); clear hf3 HALL HALB)
      obtain ⟨pb, hpb⟩ : ∃ pb, pb = w2.heap.size := ⟨_, rfl⟩
      rw [← hpb] at HC3 ⊢
      have HB3 : Hid (Below w.heap.size w w3) := HB2.out.trans (HB23.out.mono HB2.out.size)
      have c8 : w3.cell? ⟨pb, 8, none⟩ = some (.int .i64 0) := by
        have h : w3.heap[pb]? = some (.cells (rowArr 51 (pkV zPk none 0 none 0)) 30 (0, 0)) := by have := HC3.out; rw [HZA.out] at this; exact this
        exact (Row.of_whole h).cell 8 (by omega)
      clear HB2 HB23 hpb HC3
      go_wp2_with fail
      go_ret
      exact ⟨rfl, HB3.out⟩
    | sum =>
      obtain ⟨ZA, hZA⟩ : ∃ ZA, ZA = rowArr 51 (pkV zPk none 0 none 0) := ⟨_, rfl⟩
      have HQ1 : Hid (ZA.all (·.oneCell') = true) := by show _ = _; rw [hZA]; exact oneCell_pk _ _ _ _ _
      have HQS : Hid (ZA.size = 51) := by show _ = _; rw [hZA, rowArr_size]
      have HD2 : Hid (Calls Tryd.prog 12 #[.slice a l.length c] w1 fun e w' => e = .returned (.tuple #[.agg ZA, .int .i64 0, .int .i64 11]) ∧ Below w1.heap.size w1 w') := HD.out.mono fun e w' h => by
        unfold DecPost at h
        rw [hd] at h
        rw [hZA]
        exact h
      have HZA := Lib.hid hZA
      clear HD hd HAW d1 hZA
      go_wp2_with fail
      (with_reducible refine HD2.out.mono ?_)
      rintro e w2 ⟨rfl, b2⟩
      have HB2 : Hid (Below w.heap.size w w2) := HB1.out.trans (b2.mono HB1.out.size)
      have HALL : Hid (∀ c : Array Value, (w2.alloc (.cells c 30)).heap[w2.heap.size]? = some (.cells c 30 (0, 0))) := fun c => heap_alloc_last w2 _
      have HALB : Hid (∀ c : Array Value, Below w2.heap.size w2 (w2.alloc (.cells c 30))) := fun c => (Below.refl _ _).alloc (Nat.le_refl _) _
      clear HD2 b2 HB1
      go_upto_region 5 with (refine wpList_store_arr rfl 30 _ _ rfl w2.heap.size ZA rfl rfl 30 _ (HALL.out _) (by rw [HQS.out]; kernel_rfl) (by rw [HQS.out]; rfl) HQ1.out ?_; intro w3 HC3 hf3; have HB23 : Hid (Below w2.heap.size w2 w3) := (HALB.out _).trans (hf3.out.below (HALB.out _).size (fun k hk e => by omega)); clear hf3 HALL HALB)
      obtain ⟨pb, hpb⟩ : ∃ pb, pb = w2.heap.size := ⟨_, rfl⟩
      rw [← hpb] at HC3 ⊢
      have HB3 : Hid (Below w.heap.size w w3) := HB2.out.trans (HB23.out.mono HB2.out.size)
      have c8 : w3.cell? ⟨pb, 8, none⟩ = some (.int .i64 0) := by
        have h : w3.heap[pb]? = some (.cells (rowArr 51 (pkV zPk none 0 none 0)) 30 (0, 0)) := by have := HC3.out; rw [HZA.out] at this; exact this
        exact (Row.of_whole h).cell 8 (by omega)
      clear HB2 HB23 hpb HC3
      go_wp2_with fail
      go_ret
      exact ⟨rfl, HB3.out⟩
  · have d1 : decide ((20000 : Int) < (l.length : Int)) = true := decide_eq_true (by omega)
    go_enter Tryd.func4, Tryd.ntmps4
    go_upto_region 2 with (go_at_call 8; (with_reducible refine HA0.out.mono ?_); rintro e w1 ⟨rfl, b1⟩; have HB1 := Lib.hid b1; clear b1 HA0)
    have HA1 := Lib.hid (HAW.out w1 HB1.out)
    go_wp2_with fail
    (with_reducible refine HA1.out.mono ?_)
    rintro e w2 ⟨rfl, b2⟩
    have HB2 : Hid (Below w.heap.size w w2) := HB1.out.trans (b2.mono HB1.out.size)
    clear HA1 b2
    go_wp2_with fail
    go_ret
    exact ⟨rfl, HB2.out⟩
end Go.Proofs.YthpfjgbhacdpgaaDoor
end

section
namespace Go.Proofs.YthpfjgbhacdpgaaDoor
open Go.ChangeShapes Go.WideShapes Go.ChangeAt Go.RowKit
set_option linter.unusedVariables false

theorem ownD : ownKnob Tryd.prog.godebug = none := by kernel_rfl
theorem laidOutD : laidOutB Tryd.prog = true := by kernel_rfl
theorem cellsU32 : Tryd.prog.cellsOf 27 = 1 := by kernel_rfl
/-- An array of numbers of one cell each, opened: each cell holds its number. -/
theorem array_cells32 {H : Type} {enc : TypeId × Value → H} {w : World} {base fuel n : Nat} {spare : Nat → Bool} {held : Bool} {t : TypeId} {cs : List Value} {zs : List Int} {ps : List MemPlace}
    (ht : Tryd.prog.underlying t = some (.array n 27)) (hd : DataW.trod enc Tryd.prog w base spare held fuel t cs = some (.agg (zs.map fun z => .lit (.int .u32 z)), ps)) :
    zs.length = n ∧ ∀ i (h : i < zs.length), cs[i]? = some (.int .u32 zs[i]) := by
  obtain ⟨xs, m1, _, hx1, hcl, hn3, hel⟩ := DataW.trod_array ht hd
  simp only [Prod.mk.injEq, DataW.agg.injEq] at hx1
  have hl : zs.length = xs.length := by have := congrArg List.length hx1.1; simpa using this
  refine ⟨hl.trans hn3, fun i hi => ?_⟩
  have hix : i < xs.length := by omega
  have h0 := hel i (by omega)
  rw [cellsU32, Nat.mul_one, List.getElem?_eq_getElem hix] at h0
  obtain ⟨k, e1, e2, _⟩ := DataW.trod_int Tryd.underlying27 h0
  have hk : zs[i] = k := by
    have := congrArg (fun l => l[i]?) hx1.1
    simp [hi, hix, e2] at this
    exact this
  rw [hk]
  have : (cs.drop i)[0]? = some (.int .u32 k) := by
    cases h : cs.drop i with
    | nil => rw [h] at e1; simp at e1
    | cons c r => rw [h] at e1; simp at e1; simp [e1]
  simpa using this
theorem gStart : Tryd.prog.globalNamed "geyser/sum.start" = some 0 := by kernel_rfl
theorem tStart : (Tryd.prog.globals[0]?).map (·.type) = some 129 := by kernel_rfl
theorem gRounds : Tryd.prog.globalNamed "geyser/sum.rounds" = some 2 := by kernel_rfl
theorem tRounds : (Tryd.prog.globals[2]?).map (·.type) = some 135 := by kernel_rfl
def startL : List Int := [1779033703, 3144134277, 1013904242, 2773480762, 1359893119, 2600822924, 528734635, 1541459225]
def roundsL : List Int := Sha.kL.map fun k : Nat => (k : Int)
theorem rounds_get : ∀ k, k < 64 → roundsL[k]? = some ((Sha.kN k : Nat) : Int) := by decide +kernel
theorem start_get : ∀ k, k < 8 → startL[k]? = some ((Sha.start8.get k : Nat) : Int) := by decide +kernel
theorem array_get32 {H : Type} {enc : TypeId × Value → H} {w : World} {base fuel n : Nat} {spare : Nat → Bool} {held : Bool} {t : TypeId} {cs : List Value} {zs : List Int} {ps : List MemPlace}
    (ht : Tryd.prog.underlying t = some (.array n 27)) (hd : DataW.trod enc Tryd.prog w base spare held fuel t cs = some (.agg (zs.map fun z => .lit (.int .u32 z)), ps)) (k : Nat) (z : Int) (hz : zs[k]? = some z) :
    cs[k]? = some (.int .u32 z) := by
  have hk : k < zs.length := by
    rcases Nat.lt_or_ge k zs.length with h | h
    · exact h
    · rw [List.getElem?_eq_none h] at hz; cases hz
  have := (array_cells32 ht hd).2 k hk
  rw [List.getElem?_eq_getElem hk] at hz
  rw [← Option.some.inj hz]
  exact this
/-- What the condition gives the walks: the two tables. -/
theorem tabs_of {W : World} (h : laidMetH Tryd.prog [("geyser/sum.start", Rows.laid_geyser_sum_start), ("geyser/sum.rounds", Rows.laid_geyser_sum_rounds)] W) : Tabs W := by
  rw [MakeChecks.laidMetH_plain _ _ _ (by kernel_rfl)] at h
  obtain ⟨ps, ⟨g1, t1, cs1, f1, p1, q1, hg1, ht1, hv1, hd1, ⟨g2, t2, cs2, f2, p2, q2, hg2, ht2, hv2, hd2, _⟩, _⟩, _, _⟩ := h
  obtain rfl := Option.some.inj (gStart.symm.trans hg1)
  obtain rfl := Option.some.inj (tStart.symm.trans ht1)
  obtain rfl := Option.some.inj (gRounds.symm.trans hg2)
  obtain rfl := Option.some.inj (tRounds.symm.trans ht2)
  refine ⟨fun k hk => ?_, ?_⟩
  · rw [World.var?_cell hg2 hv2 k]
    have := array_get32 (zs := roundsL) Tryd.underlying135 hd2 k _ (rounds_get k hk)
    simpa using this
  · have hcs : cs1 = Sha.rowArr 8 (Sha.stV Sha.start8) := by
      have hl := (DataW.trod_array Tryd.underlying129 hd1)
      obtain ⟨xs, m1, _, _, hcl, _, _⟩ := hl
      rw [show Tryd.prog.cellsOf 129 = 8 by kernel_rfl] at hcl
      apply Array.ext_getElem?
      intro i
      by_cases hi : i < 8
      · have := array_get32 (zs := startL) Tryd.underlying129 hd1 i _ (start_get i hi)
        rw [← Array.getElem?_toList, this]
        simp [Sha.rowArr, hi, Sha.stV]
      · have h8 : cs1.size = 8 := by simpa using hcl
        rw [Array.getElem?_eq_none (by omega), Array.getElem?_eq_none (by rw [Sha.rowArr_size]; omega)]
    unfold World.var? at hv1
    rw [hg1] at hv1
    simp only [Option.bind_some] at hv1
    split at hv1
    · rename_i cs t fr heq
      have : cs = cs1 := Option.some.inj hv1
      exact ⟨t, fr, by rw [heq, this, hcs]⟩
    · cases hv1
/-- The door's own heap meets the condition. -/
theorem door_met2 (os : Os) (args : Array Value) : laidMetH Tryd.prog [("geyser/sum.start", Rows.laid_geyser_sum_start), ("geyser/sum.rounds", Rows.laid_geyser_sum_rounds)] ((World.doorLaid Tryd.prog 600 os).forCall (fun _ _ => 0) ⟨#[], args, []⟩).memory :=
  laidMetH_of_parts3 (fuel := 8) (laidMet_of_run' 8 (by kernel_rfl) (by kernel_rfl)) (by kernel_rfl) (by kernel_rfl)
end Go.Proofs.YthpfjgbhacdpgaaDoor
end
