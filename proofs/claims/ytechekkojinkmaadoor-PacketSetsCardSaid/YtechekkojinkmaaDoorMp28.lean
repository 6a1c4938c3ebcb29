/-
  The document's Index: all bytes of a formed set's directory.
  The law's Few and Same of sets; a set that is handed in.
  A map from a packet's kind and index: its look-ups, its entries.
-/
import Derived.Test.YtechekkojinkmaaDoorMp27
import Derived.DeepKeys3
import Derived.WideKeyMaps2
section
namespace Go.Proofs.YtechekkojinkmaaDoor
open Go.ChangeShapes Go.WideShapes Go.ChangeAt Go.RowKit Go.Joins
set_option linter.unusedVariables false

def idxN (nm : List Nat) (l : List Pk) : List Nat := (l.map fun p => bytesN nm p.kind (pkBody p)).flatten
theorem idxN_next {nm : List Nat} {l : List Pk} {k : Nat} (h : k < l.length) : idxN nm (l.take (k + 1)) = idxN nm (l.take k) ++ bytesN nm l[k].kind (pkBody l[k]) := by
  unfold idxN
  rw [List.take_succ_eq_append_getElem h, List.map_append, List.flatten_append]
  simp
theorem idxN_len {nm : List Nat} (h8 : nm.length = 8) {l : List Pk} (h : ∀ p ∈ l, PkIn p ∧ pkOk p) : (idxN nm l).length ≤ 49 * l.length + costN l := by
  induction l with
  | nil => simp [idxN, costN]
  | cons p l ih =>
    have h1 := ih fun q hq => h q (by simp [hq])
    have h2 := body_len14 (h p (by simp)).1 (h p (by simp)).2
    have h3 := bytes_len h8 p.kind (pkBody p)
    unfold idxN costN at h1 ⊢
    simp only [List.map_cons, List.flatten_cons, List.length_append, List.sum_cons, List.length_cons] at h1 ⊢
    omega
theorem bytesN_byte {nm : List Nat} {z : Int} {b : List Nat} (hn : IsByte nm) (hb : IsByte b) : IsByte (bytesN nm z b) := by
  unfold bytesN
  have hk : IsByte (kbN z b) := fun x hx => by
    unfold kbN at hx
    rcases List.mem_append.1 hx with h | h
    · rw [List.mem_singleton.1 h]; exact u8N_lt _
    · exact hb x h
  intro x hx
  simp only [List.mem_append] at hx
  rcases hx with (((h | h) | h) | h) | h
  · simp only [List.mem_cons, List.mem_nil_iff, or_false] at h; omega
  · exact wideN_byte _ _ x h
  · exact hn x h
  · exact dgN_byte _ x h
  · exact hk x h
theorem dirS_bytes (S : St) : ((dirS S).map pkBytes).flatten = idxN (nameS S) (dirTo S S.files.length) := by
  unfold dirS idxN
  rw [List.map_map]
  rfl
set_option maxRecDepth 1000000 in
set_option maxHeartbeats 16000000 in
theorem refIndex_any (S : St) (fa : Option Addr) (fc : Nat) (sa : Option Addr) (sc : Nat) (w : World) (hs : SetAt w S fa fc sa sc) (hf : FormedP S) :
    Calls Tryd.prog 13 #[.agg (rowArr 3 (setV S fa fc sa sc))] w fun e w' => ∃ v, e = .returned v ∧ Acc w w' v (idxN (nameS S) (dirTo S S.files.length)) := by
  have mixed : Tryd.prog.follows .mixedOrders = true := by kernel_rfl
  obtain ⟨PQ, hPQ⟩ : ∃ PQ : Ending → World → Prop, PQ = fun e w' => ∃ v, e = .returned v ∧ Acc w w' v (idxN (nameS S) (dirTo S S.files.length)) := ⟨_, rfl⟩
  have HPQ := Lib.hid hPQ
  rw [← hPQ]
  obtain ⟨arr, harr⟩ : ∃ arr, arr = rowArr 3 (setV S fa fc sa sc) := ⟨_, rfl⟩
  have HAR : Hid (arr.size = 3) := by show _ = _; rw [harr, rowArr_size]
  have hB0 : Below w.heap.size w (w.alloc (.cells arr 25)) := (Below.refl _ _).alloc (Nat.le_refl _) _
  have HB := Lib.hid hB0
  have HX1 : Hid ((w.alloc (.cells arr 25)).heap[w.heap.size]? = some (.cells arr 25 (0, 0))) := heap_alloc_last w _
  have HS1 := Lib.hid (hs.below hB0)
  have HFO := Lib.hid hf
  have hnm := refName14_any S fa fc sa sc _ (hs.below hB0) hf
  have HD : Hid (DirIn S) := ⟨hs.slice, hs.files.rng, hs.slices.rng, hf.s1, hf.s2, hf.m1, hf.f2⟩
  obtain ⟨d1, d2⟩ := dir_ok HD.out hf.good
  have hf2 := hf.f2
  have hm1 := hf.m1
  have hcost : costN (dirTo S S.files.length) ≤ 5000 := by omega
  have hDl := dirTo_len S S.files.length
  obtain ⟨D, hD⟩ : ∃ D, D = dirTo S S.files.length := ⟨_, rfl⟩
  have hDN : D.length ≤ 17 := by rw [hD, hDl]; omega
  rw [← hD] at d1 d2 hcost
  have HDO : Hid (∀ p ∈ D, PkIn p ∧ pkOk p) := fun p hp => ⟨(d1 p hp).1, (d1 p hp).2.1⟩
  have HCO := Lib.hid hcost
  have HDE := Lib.hid hD
  obtain ⟨QA, hQA⟩ : ∃ QA, QA = rowArr 8 (vOf (nameS S)) := ⟨_, rfl⟩
  have VQ : Hid (rowArr 8 (vOf (nameS S)) = QA) := hQA.symm
  have HQs : Hid (QA.size = 8) := by show _ = _; rw [hQA, rowArr_size]
  have HQ1 : Hid (QA.all (·.oneCell') = true) := by show _ = _; rw [hQA]; exact oneCell_v _ 8
  have N8 : Hid ((nameS S).length = 8) := nameOf_len _
  have NB : Hid (IsByte (nameS S)) := nameOf_byte _
  rw [← harr, ← hQA] at hnm
  have HNM := Lib.hid hnm
  have HAE := Lib.hid harr
  rw [← harr]
  clear harr hB0 hs hPQ d1 d2 hf2 hm1 hcost hDl hD hf hnm hQA
  go_enter Tryd.func13, Tryd.ntmps13
  go_upto_region 1 with fail
  obtain ⟨b, hb⟩ : ∃ b, b = w.heap.size := ⟨_, rfl⟩
  have hbw : w.heap.size ≤ b := by omega
  rw [← hb] at HX1 ⊢
  generalize w.alloc (.cells arr 25) = w1 at *
  clear hb
  go_upto_region 2 with (first
    | (refine wpList_load_row rfl 25 _ rfl b rfl 25 arr (0, 0) _ HX1.out Tryd.underlying25 rfl (by rw [HAR.out]; kernel_rfl) ?_)
    | (go_at_call 11; (with_reducible refine HNM.out.mono ?_); rintro e wn ⟨rfl, bn⟩; have HBn := Lib.hid bn; clear bn HNM; have HALL : Hid (∀ c : Array Value, (wn.alloc (.cells c 32)).heap[wn.heap.size]? = some (.cells c 32 (0, 0))) := (fun c => heap_alloc_last wn _); have HALB : Hid (∀ c : Array Value, Below wn.heap.size wn (wn.alloc (.cells c 32))) := (fun c => (Below.refl _ _).alloc (Nat.le_refl _) _))
    | (refine wpList_store_arr rfl 32 _ _ rfl wn.heap.size QA rfl rfl 32 _ (HALL.out _) (by rw [HQs.out]; kernel_rfl) (by rw [HQs.out]; rfl) HQ1.out ?_; intro wm HCm hfm; have HBm : Hid (Below wn.heap.size wn wm) := (HALB.out _).trans (hfm.out.below (HALB.out _).size (fun k hk e => by omega)); clear hfm HALL HALB))
  obtain ⟨gq, hgq⟩ : ∃ gq, gq = wn.heap.size := ⟨_, rfl⟩
  rw [← hgq] at HCm
  rw [← hgq]
  have HB1m : Hid (Below w1.heap.size w1 wm) := HBn.out.trans (HBm.out.mono HBn.out.size)
  have HXm : Hid (wm.heap[b]? = some (.cells arr 25 (0, 0))) := (HB1m.out.block b (Array.getElem?_eq_some_iff.1 HX1.out).1).trans HX1.out
  have hbd := refBodies_any S fa fc sa sc wm (HS1.out.below HB1m.out) HFO.out
  rw [← HAE.out] at hbd
  have HBD := Lib.hid hbd
  clear hbd hgq HBn HBm
  go_upto_region 4 with (first
      | (refine wpList_load_row rfl 25 _ rfl b rfl 25 arr (0, 0) _ HXm.out Tryd.underlying25 rfl (by rw [HAR.out]; kernel_rfl) ?_)
      | (go_at_call 31; (with_reducible refine HBD.out.mono ?_); rintro e w2 ⟨kv, bv, F, rfl, hb2, hl2⟩; have HB2 := Lib.hid hb2; have HL2 := Lib.hid hl2; clear hb2 hl2 HBD))
  rw [← HDE.out] at HB2 HL2
  have hFl : F.length = D.length := by
    have := congrArg List.length HL2.out
    simpa using this
  obtain ⟨ka, kc, hkv, hk1, hk2⟩ := HB2.out.ko.slice
  obtain ⟨ba, bc, hbv, hb1, hb2⟩ := HB2.out.bo.slice
  rw [List.length_map, List.length_map] at hkv
  rw [List.length_map, hFl] at hbv
  have HC2 : Hid (w2.heap[gq]? = some (.cells QA 32 (0, 0))) := (HB2.out.below.block _ (Array.getElem?_eq_some_iff.1 HCm.out).1).trans HCm.out
  have HBw : Hid (Below w.heap.size w w2) := HB.out.trans ((HB1m.out.trans (HB2.out.below.mono HB1m.out.size)).mono HB.out.size)
  have hgq2 : gq < w2.heap.size := (Array.getElem?_eq_some_iff.1 HC2.out).1
  subst hkv
  subst hbv
  have HFLn := Lib.hid hFl
  have hDN63 : D.length ≤ 9223372036854775807 := by omega
  clear hk1 hk2 hb1 hb2 hFl HB1m HXm
  have HA0 : Hid (Acc w2 w2 (.slice none 0 0) (idxN (nameS S) (D.take 0))) := ⟨OwnB.nil _, fun j hj => (by cases hj), Below.refl _ _⟩
  go_wp2_with fail
  go_loopw [6, 17] (fun t i wr => ∃ (k : Nat), k ≤ D.length ∧ i = .int .i64 k ∧ Hid (Acc w2 wr t (idxN (nameS S) (D.take k)))) (fun _ i _ => D.length - (intOf i).toNat)
  case atStart => exact ⟨0, by omega, rfl, HA0⟩
  case round =>
    obtain ⟨k, hk, rfl, HA⟩ := hrel
    clear HA0
    by_cases hlt : k < D.length
    · have hltF : k < F.length := by rw [HFLn.out]; exact hlt
      have hkk : k < (((D.map (·.kind)).map (Value.int .i64))).length := by rw [List.length_map, List.length_map]; exact hlt
      have hko := HB2.out.ko
      have hbo := HB2.out.bo
      have el1 : (List.map (Value.int .i64) (D.map (·.kind))).length = D.length := by simp
      have el2 : (F.map (·.v)).length = D.length := by rw [List.length_map, HFLn.out]
      rw [← el1] at hko
      rw [← el2] at hbo
      obtain ⟨kg, rfl, hkg, hkc⟩ := hko.cell hkk
      obtain ⟨bg, rfl, hbg, hbc⟩ := hbo.cell (i := k) (by rw [el2]; exact hlt)
      have e1 : (List.map (Value.int .i64) (D.map (·.kind)))[k] = .int .i64 D[k].kind := by simp
      have e2 : (F.map (·.v))[k]'(by rw [el2]; exact hlt) = F[k].v := by simp
      rw [e1] at hkc
      rw [e2] at hbc
      obtain ⟨ho, hby⟩ := HB2.out.bods F[k] (List.getElem_mem hltF)
      have hlk : F[k].l = pkBody D[k] := by
        have h1 : (F.map (·.l))[k]? = (D.map pkBody)[k]? := by rw [HL2.out]
        rw [List.getElem?_map, List.getElem?_map, List.getElem?_eq_getElem hltF, List.getElem?_eq_getElem hlt] at h1
        exact Option.some.inj h1
      obtain ⟨p, q, hv, hsl, hpx⟩ := ho.sl hby
      rw [hv] at hbc
      rw [hlk] at hsl hbc
      have hdk := HDO.out D[k] (List.getElem_mem hlt)
      have hle := body_len14 hdk.1 hdk.2
      have hc1 := costN_one hlt
      have hn1 := idxN_next (nm := nameS S) hlt
      have hal := idxN_len N8.out (l := D.take k) (fun x hx => HDO.out x (List.mem_of_mem_take hx))
      rw [List.length_take] at hal
      have hbl := bytes_len N8.out D[k].kind (pkBody D[k])
      have hq := HCO.out
      have hkr := hdk.1.kind
      obtain ⟨z, hz⟩ : ∃ z, z = D[k].kind := ⟨_, rfl⟩
      obtain ⟨Bd, hBd⟩ : ∃ Bd, Bd = pkBody D[k] := ⟨_, rfl⟩
      obtain ⟨W, hW⟩ : ∃ W, W = idxN (nameS S) (D.take k) := ⟨_, rfl⟩
      rw [← hz] at hkc hn1 hkr hbl
      rw [← hBd] at hsl hbc hn1 hle hbl
      rw [← hW] at hn1 hal HA
      have hWl : W.length + Bd.length ≤ 10000 := by omega
      have HN1 : Hid (idxN (nameS S) (D.take (k + 1)) = W ++ bytesN (nameS S) z Bd) := hn1
      have hBdl : Bd.length ≤ 20000 := by omega
      have hby2 : (bytesN (nameS S) z Bd).length ≤ 20000 := by omega
      have hWb : W.length + (bytesN (nameS S) z Bd).length ≤ 30000 := by omega
      have HKR := Lib.hid hkr
      obtain ⟨z1, z2⟩ := hkr
      have HSL := Lib.hid hsl
      obtain ⟨wd, hwd⟩ : ∃ wd, wd = wr.drew := ⟨_, rfl⟩
      have HAD : Hid (Acc w2 wd u6 W) := by rw [hwd]; exact HA.out.later (Below.refl _ _).drew
      have k21 : Hid (∀ u : KeepW wd (fun j => u6.ownBlock = some j), ∀ j, j < 8 → u.v.cell? ⟨gq, 0 + j, none⟩ = some (vOf (nameS S) j)) := fun u j hj => by
        have hne : ¬ u6.ownBlock = some gq := fun e => by have := HAD.out.low gq e; omega
        rw [u.cell (Nat.lt_of_lt_of_le hgq2 HAD.out.below.size) hne, HAD.out.below.cell (p := ⟨gq, 0 + j, none⟩) hgq2, cell_of_block HC2.out, Nat.zero_add, ← VQ.out]
        simp [rowArr, hj]
      have hno : ∀ j, j < w2.heap.size → ¬ u6.ownBlock = some j := fun j hj e => by have := HAD.out.low j e; omega
      have hszd : w2.heap.size ≤ wd.heap.size := HAD.out.below.size
      have k23 : ∀ u : KeepW wd (fun j => u6.ownBlock = some j), u.v.cell? ⟨kg, k, none⟩ = some (.int .i64 z) := fun u => (u.cell (Nat.lt_of_lt_of_le hkg hszd) (hno _ hkg)).trans ((HAD.out.below.cell (p := ⟨kg, k, none⟩) hkg).trans hkc)
      have k30 : ∀ u : KeepW wd (fun j => u6.ownBlock = some j), u.v.cell? ⟨bg, k, none⟩ = some (.slice p Bd.length q) := fun u => (u.cell (Nat.lt_of_lt_of_le hbg hszd) (hno _ hbg)).trans ((HAD.out.below.cell (p := ⟨bg, k, none⟩) hbg).trans hbc)
      obtain ⟨Bl, hBl⟩ : ∃ Bl, Bl = Bd.length := ⟨_, rfl⟩
      rw [← hBl] at k30
      have HBL := Lib.hid hBl
      have hrb := refBytes_any (nameS S) z p q Bd wd N8.out NB.out HKR.out (HSL.out.below HAD.out.below) hBdl
      rw [VQ.out, ← hBl] at hrb
      have HRB := Lib.hid hrb
      have HWL := Lib.hid hWb
      clear hpx hrb hbl hBdl hby2 hWb hkc hbc hko hbo el1 el2 e1 e2 ho hby hlk hv hsl hdk hle hc1 hn1 hal hq hz hBd hW hno hszd hkk hltF hkg hbg hBl hWl HA
      go_upto_region 7 with fail
      refine growK_begin 12 (fun w' => ∃ u : KeepW wd (fun j => u6.ownBlock = some j), w' = u.v) (by kernel_rfl) ?_
      rw [← hwd]
      clear hwd
      refine growK_take (by kernel_rfl) [0, 1, 2, 3, 4, 5, 6, 7, 8, 9] 3 _ _ (by kernel_rfl) _ (keep_class (Fr.refl _ _)) ?_
      simp only [opsAt, List.getElem?_toArray, List.getElem?_cons_succ, List.getElem?_cons_zero]
      repeat (first
        | (refine wpQuiet_load_v (by rfl) 32 _ rfl gq 0 8 _ QA VQ.out rfl _ (fun w hw j hj => by obtain ⟨u, rfl⟩ := hw; exact k21.out u j hj) Tryd.underlying32 rfl (by kernel_rfl) ?_)
        | go_big_quiet_step (fail) | quiet_step (fail))
      refine wpQuiet_nil ?_
      clear k21 k23 k30
      refine growK_one 10 (by kernel_rfl) (fun K hK => ?_)
      simp only [stepOf, List.getElem?_toArray, List.getElem?_cons_succ, List.getElem?_cons_zero]
      go_simp
      go_at_call 38
      (with_reducible refine HRB.out.mono ?_)
      rintro e w6 ⟨v6, rfl, ha6⟩
      have HBY : Hid (IsByte (bytesN (nameS S) z Bd)) := bytesN_byte NB.out HSL.out.byte
      obtain ⟨p6, q6, hv6, hs6, hp6⟩ := ha6.own.sl HBY.out
      obtain ⟨Y, hY⟩ : ∃ Y, Y = bytesN (nameS S) z Bd := ⟨_, rfl⟩
      rw [← hY] at hv6 hs6 HWL HN1
      obtain ⟨l6, hl6⟩ : ∃ l6, l6 = Y.length := ⟨_, rfl⟩
      rw [← hl6] at hv6
      subst hv6
      have HL6 := Lib.hid hl6
      have HS6 := Lib.hid hs6
      have HB6 := Lib.hid ha6.below
      have HA6 := Lib.hid (HAD.out.later HB6.out)
      refine hK.out _ _ (keep_class (Fr.of_below HB6.out)) ?_
      clear hK K HRB ha6 hs6 hp6 hY hl6
      refine growK_one 11 (by kernel_rfl) (fun K hK => ?_)
      simp only [stepOf, List.getElem?_toArray, List.getElem?_cons_succ, List.getElem?_cons_zero]
      rw [if_pos (by rfl)]
      refine wp_addB _ (.tmp 20) (.tmp 30) rfl u6 W rfl HA6.out.own p6 q6 l6 Y rfl HL6.out.symm HS6.out (by have := HWL.out; omega) ?_
      intro v7 w7 o7 g7 e7
      have F7 : Hid (Fr (fun j => u6.ownBlock = some j) wd w7) := (Fr.of_below HB6.out).trans (Fr.of_grown g7.out fun b e => e)
      have HA7 := Lib.hid (HA6.out.add o7.out g7.out e7.out)
      refine hK.out _ _ (keep_class F7.out) ?_
      clear hK K o7 g7 e7 HA6
      rw [← HN1.out] at HA7
      refine growK_last (by kernel_rfl) (by kernel_rfl) (fun K hK => ?_)
      simp only [stepOf, List.getElem?_toArray, List.getElem?_cons_succ, List.getElem?_cons_zero]
      go_simp
      refine hK.out _ _ ?_
      clear hK K F7
      go_wp2_with fail
      go_roundw
      case rel => exact ⟨k + 1, by omega, by go_num, HA7⟩
      case measure => simp [intOf]; omega
    · obtain rfl : k = D.length := by omega
      rw [List.take_length] at HA
      have HR : Hid (PQ (.returned u6) wr) := by
        show PQ _ _
        rw [HPQ.out, ← HDE.out]
        exact ⟨u6, rfl, HA.out.own, fun j hj => Nat.le_trans HBw.out.size (HA.out.low j hj), HBw.out.trans (HA.out.below.mono HBw.out.size)⟩
      go_wp2_with fail
      exact HR.out
end Go.Proofs.YtechekkojinkmaaDoor
end

section
namespace Go.Proofs.YtechekkojinkmaaDoor
open Go.ChangeShapes Go.WideShapes Go.ChangeAt Go.RowKit Go.Joins
set_option linter.unusedVariables false

def FewS (S : St) : Prop := (∀ j, j < S.files.length → j < 12 ∧ (S.files.getD j zFil).name.length ≤ 300) ∧ S.slices.length ≤ 100
set_option maxRecDepth 1000000 in
set_option maxHeartbeats 4000000 in
theorem fewSet_any (S : St) (fa : Option Addr) (fc : Nat) (sa : Option Addr) (sc : Nat) (w : World) (hs : SetAt w S fa fc sa sc) :
    Calls Tryd.prog 6 #[.agg (rowArr 3 (setV S fa fc sa sc))] w fun e w' => ∃ r : Bool, (e = .returned (.bool r) ∧ Below w.heap.size w w') ∧ (r = true ↔ FewS S) := by
  have hB0 : Below w.heap.size w (w.alloc (.cells (rowArr 3 (setV S fa fc sa sc)) 25)) := (Below.refl _ _).alloc (Nat.le_refl _) _
  have HX := Lib.hid (SetBox.new w S fa fc sa sc)
  have HS := Lib.hid (hs.below hB0)
  have hfl := hs.files.lt
  have hsl := hs.slices.lt
  obtain ⟨PQ, hPQ⟩ : ∃ PQ : Ending → World → Prop, PQ = fun e w' => ∃ r : Bool, (e = .returned (.bool r) ∧ Below w.heap.size w w') ∧ (r = true ↔ FewS S) := ⟨_, rfl⟩
  have HR : Hid (∀ r : Bool, (r = true ↔ FewS S) → PQ (.returned (.bool r)) (w.alloc (.cells (rowArr 3 (setV S fa fc sa sc)) 25))) := by
    show ∀ _, _
    rw [hPQ]; exact fun r hr => ⟨r, ⟨rfl, hB0⟩, hr⟩
  rw [← hPQ]
  obtain ⟨arr, harr⟩ : ∃ arr, arr = rowArr 3 (setV S fa fc sa sc) := ⟨_, rfl⟩
  rw [← harr] at HX HS HR ⊢
  clear harr hB0 hs hPQ
  go_enter Tryd.func6, Tryd.ntmps6
  go_upto_region 1 with fail
  obtain ⟨b, hb⟩ : ∃ b, b = w.heap.size := ⟨_, rfl⟩
  rw [← hb] at HX ⊢
  generalize w.alloc (.cells arr 25) = w1 at *
  clear hb
  have c1 := HX.out.c1
  have c2 := HX.out.c2
  have HJ0 : Hid (∀ j, j < 0 → j < 12 ∧ (S.files.getD j zFil).name.length ≤ 300) := fun j hj => by omega
  go_wp2_with fail
  go_loopw [7] (fun i wr => ∃ k : Nat, k ≤ S.files.length ∧ i = .int .i64 k ∧ Hid (∀ j, j < k → j < 12 ∧ (S.files.getD j zFil).name.length ≤ 300) ∧ w1 = wr) (fun i _ => S.files.length - (intOf i).toNat)
  case atStart => exact ⟨0, by omega, rfl, HJ0, rfl⟩
  case round =>
    obtain ⟨k, hk, rfl, HJ, rfl⟩ := hrel
    clear HJ0
    by_cases hlt : k < S.files.length
    · obtain ⟨fb, off, rfl, hbl, hx⟩ := fils_one HS.out.files hlt
      have hok := HS.out.files.rng _ (List.getElem_mem hlt)
      have hgd : S.files.getD k zFil = S.files[k] := by simp [List.getD, hlt]
      obtain ⟨f, hf⟩ : ∃ f, f = S.files[k] := ⟨_, rfl⟩
      rw [← hf] at hx hok hgd
      have k0 : w1.cell? ⟨fb, off + k * 35, none⟩ = some (.string (strOf f.name)) := by
        have := hx 0 (by omega)
        simpa [filV] using this
      have hsz := strOf_size f.name
      obtain ⟨n1, hn1⟩ : ∃ n, n = f.name.length := ⟨_, rfl⟩
      rw [← hn1] at hsz
      have HNE : Hid ((S.files.getD k zFil).name.length = n1) := by show _ = _; rw [hgd, hn1]
      have hn63 : n1 ≤ 9223372036854775807 := by rw [hn1]; exact hok.short
      clear hx hok hf hn1 hgd
      by_cases q1 : 12 ≤ k
      · have d1 : decide ((12 : Int) ≤ (k : Int)) = true := decide_eq_true (by omega)
        have d2 : decide (12 ≤ k) = true := decide_eq_true q1
        have HRR := Lib.hid (HR.out false ⟨fun h => (by cases h), fun h => by have := (h.1 k hlt).1; omega⟩)
        go_wp2_with fail
        exact HRR.out
      · have d1 : decide ((12 : Int) ≤ (k : Int)) = false := decide_eq_false (by omega)
        have d2 : decide (12 ≤ k) = false := decide_eq_false q1
        by_cases q2 : 300 < n1
        · have d3 : decide ((300 : Int) < (n1 : Int)) = true := decide_eq_true (by omega)
          have d4 : decide (300 < n1) = true := decide_eq_true q2
          have HRR := Lib.hid (HR.out false ⟨fun h => (by cases h), fun h => by have h1 := (h.1 k hlt).2; have h2 := HNE.out; omega⟩)
          go_wp2_with fail
          exact HRR.out
        · have d3 : decide ((300 : Int) < (n1 : Int)) = false := decide_eq_false (by omega)
          have d4 : decide (300 < n1) = false := decide_eq_false q2
          have HJN : Hid (∀ j, j < k + 1 → j < 12 ∧ (S.files.getD j zFil).name.length ≤ 300) := fun j hj => by
            by_cases e : j = k
            · subst e; exact ⟨by omega, by have := HNE.out; omega⟩
            · exact HJ.out j (by omega)
          go_wp2_with fail
          go_roundw
          case rel => exact ⟨k + 1, by omega, by go_num, HJN, trivial⟩
          case measure => simp [intOf]; omega
    · obtain rfl : k = S.files.length := by omega
      have HRR := Lib.hid (fun r : Bool => fun (hr : r = true ↔ S.slices.length ≤ 100) => HR.out r ⟨fun h => ⟨HJ.out, hr.1 h⟩, fun h => hr.2 h.2⟩)
      go_wp2_with fail
      exact HRR.out _ (by simp; omega)
set_option maxRecDepth 1000000 in
set_option maxHeartbeats 8000000 in
theorem sameSet_any (S : St) (fa : Option Addr) (fc : Nat) (sa : Option Addr) (sc : Nat) (ga : Option Addr) (gc : Nat) (ta : Option Addr) (tc : Nat) (w : World) (hs : SetAt w S fa fc sa sc) (ht : SetAt w S ga gc ta tc) :
    Calls Tryd.prog 15 #[.agg (rowArr 3 (setV S fa fc sa sc)), .agg (rowArr 3 (setV S ga gc ta tc))] w (TrueAnd w) := by
  have mixed : Tryd.prog.follows .mixedOrders = true := by kernel_rfl
  have hB0 : Below w.heap.size w (w.alloc (.cells (rowArr 3 (setV S fa fc sa sc)) 25)) := (Below.refl _ _).alloc (Nat.le_refl _) _
  have hB1 : Below w.heap.size w ((w.alloc (.cells (rowArr 3 (setV S fa fc sa sc)) 25)).alloc (.cells (rowArr 3 (setV S ga gc ta tc)) 25)) := hB0.alloc hB0.size _
  have hx0 := SetBox.new w S fa fc sa sc
  have HY := Lib.hid (SetBox.new (w.alloc (.cells (rowArr 3 (setV S fa fc sa sc)) 25)) S ga gc ta tc)
  have HX := Lib.hid (hx0.below (w' := (w.alloc (.cells (rowArr 3 (setV S fa fc sa sc)) 25)).alloc (.cells (rowArr 3 (setV S ga gc ta tc)) 25)) ((Below.refl _ _).alloc (Nat.le_refl _) _))
  have HS := Lib.hid (hs.below hB1)
  have HT := Lib.hid (ht.below hB1)
  have HB := Lib.hid hB1
  have hs1 : (w.alloc (.cells (rowArr 3 (setV S fa fc sa sc)) 25)).heap.size = w.heap.size + 1 := by simp
  have hfl := hs.files.lt
  have hsl := hs.slices.lt
  obtain ⟨sr1, sr2⟩ := hs.slice
  obtain ⟨PQ, hPQ⟩ : ∃ PQ, PQ = TrueAnd w := ⟨_, rfl⟩
  have HR : Hid (∀ w', Below w.heap.size w w' → PQ (.returned (.bool true)) w') := by
    show ∀ _, _
    rw [hPQ]; exact fun w' h => ⟨rfl, h⟩
  rw [← hPQ]
  rw [hs1] at HY
  obtain ⟨arr, harr⟩ : ∃ arr, arr = rowArr 3 (setV S fa fc sa sc) := ⟨_, rfl⟩
  obtain ⟨brr, hbrr⟩ : ∃ brr, brr = rowArr 3 (setV S ga gc ta tc) := ⟨_, rfl⟩
  rw [← harr, ← hbrr] at HX HY HS HT HB
  rw [← harr, ← hbrr]
  clear harr hbrr hB0 hB1 hs ht hPQ hs1 hx0
  go_enter Tryd.func15, Tryd.ntmps15
  go_upto_region 1 with fail
  change Code.wp _ _ _ _ ((w.alloc (.cells arr 25)).alloc (.cells brr 25))
  obtain ⟨b, hb⟩ : ∃ b, b = w.heap.size := ⟨_, rfl⟩
  rw [← hb] at HX HY ⊢
  generalize (w.alloc (.cells arr 25)).alloc (.cells brr 25) = w1 at *
  clear hb
  have c0 := HX.out.c0
  have c1 := HX.out.c1
  have c2 := HX.out.c2
  have d0 := HY.out.c0
  have d1 := HY.out.c1
  have d2 := HY.out.c2
  go_upto_region 3 with fail
  go_wp2_with fail
  clear c0 c1 c2 d0 d1 d2
  have HW0 : Hid (Below w1.heap.size w1 w1) := Below.refl _ _
  go_loopw [33] (fun i wr => ∃ k : Nat, k ≤ S.files.length ∧ i = .int .i64 k ∧ Hid (Below w1.heap.size w1 wr)) (fun i _ => S.files.length - (intOf i).toNat)
  case atStart => exact ⟨0, by omega, rfl, HW0⟩
  case round =>
    obtain ⟨k, hk, rfl, HW⟩ := hrel
    clear HW0
    by_cases hlt : k < S.files.length
    · obtain ⟨b1, o1, rfl, hb1, hx⟩ := fils_one (HS.out.files.below HW.out) hlt
      obtain ⟨b2, o2, rfl, hb2, hy⟩ := fils_one (HT.out.files.below HW.out) hlt
      have hok := HS.out.files.rng _ (List.getElem_mem hlt)
      obtain ⟨f, hf⟩ : ∃ f, f = S.files[k] := ⟨_, rfl⟩
      rw [← hf] at hx hy hok
      obtain ⟨SX, hSX⟩ : ∃ SX, SX = rowArr 35 (filV f) := ⟨_, rfl⟩
      have VX : Hid (rowArr 35 (filV f) = SX) := hSX.symm
      have nX : ∀ w, (binOp .neq 41 (.agg SX) (.agg SX)).run Tryd.prog w = .ok (.bool false) w := fun w => by
        rw [run_neq_struct, hSX, eq_file hok hok 9997 w]
        simp [Result.andThen]
      have k1 := cell_regrown (HX.out.below HW.out).c1
      have k2 := cell_regrown (HY.out.below HW.out).c1
      have HXF := Lib.hid hx
      have HYF := Lib.hid hy
      clear hf hSX hok hx hy
      go_upto_region 6 with fail
      refine wp_region_quiet_below mixed (by kernel_rfl) ?_
      repeat (first
        | (refine wpQuiet_load_v (by rfl) 41 _ rfl b1 (o1 + k * 35) 35 _ SX VX.out rfl _ (fun w hw j hj => by obtain ⟨⟨d, os⟩, rfl⟩ := hw; exact ((below_regrown wr d os).cell (p := ⟨b1, o1 + k * 35 + j, none⟩) hb1).trans (HXF.out j hj)) und_file rfl (by kernel_rfl) ?_)
        | (refine wpQuiet_load_v (by rfl) 41 _ rfl b2 (o2 + k * 35) 35 _ SX VX.out rfl _ (fun w hw j hj => by obtain ⟨⟨d, os⟩, rfl⟩ := hw; exact ((below_regrown wr d os).cell (p := ⟨b2, o2 + k * 35 + j, none⟩) hb2).trans (HYF.out j hj)) und_file rfl (by kernel_rfl) ?_)
        | go_big_quiet_step (fail) | quiet_step (fail))
      refine wpQuiet_nil ?_
      intro _ hw'
      obtain ⟨⟨dq, osq⟩, hw''⟩ := hw'
      subst hw''
      have HW2 : Hid (Below w1.heap.size w1 (Go.Sort.grow (redrawn wr dq) osq)) := HW.out.trans ((below_regrown wr dq osq).mono HW.out.size)
      clear k1 k2 nX
      generalize Go.Sort.grow (redrawn wr dq) osq = w3 at *
      go_wp2_with fail
      go_roundw
      case rel => exact ⟨k + 1, by omega, by go_num, HW2⟩
      case measure => simp [intOf]; omega
    · obtain rfl : k = S.files.length := by omega
      have c2 := (HX.out.below HW.out).c2
      have d2 := (HY.out.below HW.out).c2
      go_wp2_with fail
      clear c2 d2
      have HWq : Hid (Below w1.heap.size w1 wr) := HW.out
      go_loopw [51] (fun i wr => ∃ k : Nat, k ≤ S.slices.length ∧ i = .int .i64 k ∧ Hid (Below w1.heap.size w1 wr)) (fun i _ => S.slices.length - (intOf i).toNat)
      case atStart => exact ⟨0, by omega, rfl, HWq⟩
      case round =>
        obtain ⟨k, hk, rfl, HW⟩ := hrel
        clear HWq
        by_cases hlt : k < S.slices.length
        · obtain ⟨b1, o1, rfl, hb1, hx0⟩ := sms_one (HS.out.slices.below HW.out) hlt
          obtain ⟨b2, o2, rfl, hb2, hy0⟩ := sms_one (HT.out.slices.below HW.out) hlt
          have hok := HS.out.slices.rng _ (List.getElem_mem hlt)
          have hx := smAt_cells hx0 hok
          have hy := smAt_cells hy0 hok
          obtain ⟨f, hf⟩ : ∃ f, f = S.slices[k] := ⟨_, rfl⟩
          rw [← hf] at hx hy hok
          obtain ⟨SX, hSX⟩ : ∃ SX, SX = rowArr 34 (smV f) := ⟨_, rfl⟩
          have VX : Hid (rowArr 34 (smV f) = SX) := hSX.symm
          have nX : ∀ w, (binOp .neq 57 (.agg SX) (.agg SX)).run Tryd.prog w = .ok (.bool false) w := fun w => by
            rw [run_neq_struct, hSX, eq_sm hok hok 9997 w]
            simp [Result.andThen]
          have k1 := cell_regrown (HX.out.below HW.out).c2
          have k2 := cell_regrown (HY.out.below HW.out).c2
          have HXF := Lib.hid hx
          have HYF := Lib.hid hy
          clear hf hSX hok hx hy hx0 hy0
          go_upto_region 12 with fail
          refine wp_region_quiet_below mixed (by kernel_rfl) ?_
          repeat (first
            | (refine wpQuiet_load_v (by rfl) 57 _ rfl b1 (o1 + k * 34) 34 _ SX VX.out rfl _ (fun w hw j hj => by obtain ⟨⟨d, os⟩, rfl⟩ := hw; exact ((below_regrown wr d os).cell (p := ⟨b1, o1 + k * 34 + j, none⟩) hb1).trans (HXF.out j hj)) und_sm rfl (by kernel_rfl) ?_)
            | (refine wpQuiet_load_v (by rfl) 57 _ rfl b2 (o2 + k * 34) 34 _ SX VX.out rfl _ (fun w hw j hj => by obtain ⟨⟨d, os⟩, rfl⟩ := hw; exact ((below_regrown wr d os).cell (p := ⟨b2, o2 + k * 34 + j, none⟩) hb2).trans (HYF.out j hj)) und_sm rfl (by kernel_rfl) ?_)
            | go_big_quiet_step (fail) | quiet_step (fail))
          refine wpQuiet_nil ?_
          intro _ hw'
          obtain ⟨⟨dq, osq⟩, hw''⟩ := hw'
          subst hw''
          have HW2 : Hid (Below w1.heap.size w1 (Go.Sort.grow (redrawn wr dq) osq)) := HW.out.trans ((below_regrown wr dq osq).mono HW.out.size)
          clear k1 k2 nX
          generalize Go.Sort.grow (redrawn wr dq) osq = w3 at *
          go_wp2_with fail
          go_roundw
          case rel => exact ⟨k + 1, by omega, by go_num, HW2⟩
          case measure => simp [intOf]; omega
        · obtain rfl : k = S.slices.length := by omega
          go_wp2_with fail
          exact HR.out _ (HB.out.trans (HW.out.mono HB.out.size))
section
variable {H : Type} {enc : TypeId × Value → H} {w : World} {base : Nat} {spare : Nat → Bool} {held : Bool}
instance fil_some : Inhabited Fil := ⟨zFil⟩
theorem cells_set : Tryd.prog.cellsOf 25 = 3 := by kernel_rfl
set_option maxRecDepth 100000 in
theorem fils_in {fuel : Nat} {c : Value} {x : DataW H × List MemPlace} (h : DataW.trod enc Tryd.prog w base spare held fuel 22 [c] = some x) :
    ∃ a l cap, c = .slice a (l : List Fil).length cap ∧ Fils w a cap l := by
  rcases DataW.trod_slice Tryd.underlying22 h with ⟨hcs, hx⟩ | ⟨a, len, cap, elems, rest, n, _, hcs, hx, hb, hl, hm, hlen, hel, _, _⟩
  · simp only [List.cons.injEq, and_true] at hcs
    exact ⟨none, [], 0, hcs, ⟨fun f hf => (by cases hf), by simp, by unfold maxLen; omega, .inl rfl⟩⟩
  · simp only [List.cons.injEq, and_true] at hcs
    obtain ⟨f, hf⟩ := Go.Deep.choose_lt (α := Fil) (p := fun i v => FilOk v ∧ ∀ j, j < 35 → w.cell? ((a.add (i * 35)).add j) = some (filV v j)) (n := len) fun i hi => by
      have h1 := hel i hi
      rw [cells_fil] at h1
      have hie : i < elems.length := by omega
      rw [List.getElem?_eq_getElem hie] at h1
      obtain ⟨cs, hcs1, hcs2⟩ := Option.bind_eq_some_iff.1 h1
      obtain ⟨f, hfo, rfl⟩ := fil_in hcs2
      obtain ⟨_, _, hc⟩ := World.cells?_some hcs1
      refine ⟨f, hfo, fun j hj => ?_⟩
      rw [hc j (by omega)]
      have := rowArr_get 35 (filV f) j
      rw [if_pos hj] at this
      exact this
    have hll : ((List.range len).map f).length = len := by simp
    refine ⟨some a, (List.range len).map f, cap, by rw [hll]; exact hcs, ⟨fun x hx => ?_, by rw [hll]; exact hl, hm, ?_⟩⟩
    · obtain ⟨i, hi, rfl⟩ := List.mem_map.1 hx
      exact (hf i (List.mem_range.1 hi)).1
    · by_cases h0 : len = 0
      · exact .inl (List.length_eq_zero_iff.1 (by rw [hll]; exact h0))
      · obtain ⟨b, off, spot⟩ := a
        have hc0 := (hf 0 (by omega)).2 0 (by omega)
        have hc0' : w.cell? (⟨b, off, spot⟩ : Addr) = some (filV (f 0) 0) := by simpa [Addr.add] using hc0
        have hspot : spot = none := World.cell?_spot hc0'
        subst hspot
        have hadd : ∀ r j, ((⟨b, off, none⟩ : Addr).add r).add j = ⟨b, off + r + j, none⟩ := fun r j => by rw [addr_add, addr_add]
        refine .inr ⟨b, off, rfl, World.block_lt_of_cell? w _ hc0', fun i hi k hk => ?_⟩
        have hi2 : i < len := by rw [hll] at hi; exact hi
        have hgi : ((List.range len).map f)[i] = f i := by simp
        rw [hgi, ← hadd]
        exact (hf i hi2).2 k hk
theorem sms_none_in {fuel : Nat} {a : Option Addr} {n cap : Nat} {x : DataW H × List MemPlace} (h : DataW.trod enc Tryd.prog w base spare held fuel 23 [.slice a n cap] = some x) : a = none → cap = 0 := by
  rcases DataW.trod_slice Tryd.underlying23 h with ⟨hcs, hx⟩ | ⟨a', len, cap', elems, rest, n', _, hcs, hx, hb, hl, hm, hlen, hel, _, _⟩
  · simp only [List.cons.injEq, and_true] at hcs
    injection hcs with e1 e2 e3
    exact fun _ => e3
  · simp only [List.cons.injEq, and_true] at hcs
    injection hcs with e1 e2 e3
    intro e
    rw [e] at e1
    cases e1
set_option maxRecDepth 100000 in
/-- A set that is handed in. -/
theorem set_arg {r : Reach} {b0 : Nat} {v : Value} {d : DataW H} {q : List MemPlace} (hv : Value.okWide Tryd.prog w r b0 25 v) (h : DataW.Trod enc Tryd.prog w base spare held 25 v d q) :
    ∃ S fa fc sa sc, v = .agg (rowArr 3 (setV S fa fc sa sc)) ∧ SetAt w S fa fc sa sc ∧ (sa = none → sc = 0) := by
  obtain ⟨cs, rfl, hsz⟩ := okWide_struct Tryd.underlying25 hv
  obtain ⟨fuel, hf⟩ := h
  obtain ⟨xs, n, _, hy, hlen, hxl, hf⟩ := DataW.trod_struct Tryd.underlying25 hf
  rw [cells_set] at hsz
  match xs, hxl with
  | [y0, y1, y2], _ =>
    have f0 : DataW.trod enc Tryd.prog w base spare held n 3 ((cs.toList.drop 0).take 1) = some y0 := hf 0 _ rfl
    have f1 : DataW.trod enc Tryd.prog w base spare held n 22 ((cs.toList.drop 1).take 1) = some y1 := hf 1 _ rfl
    have f2 : DataW.trod enc Tryd.prog w base spare held n 23 ((cs.toList.drop 2).take 1) = some y2 := hf 2 _ rfl
    have hl3 : cs.toList.length = 3 := by rw [Array.length_toList]; exact hsz
    have one : ∀ off, off < 3 → ∃ c, (cs.toList.drop off).take 1 = [c] := fun off ho => ⟨cs.toList[off], by
      rw [List.drop_eq_getElem_cons (by omega)]; rfl⟩
    obtain ⟨z1, e1, _, wz1⟩ := DataW.trod_int Tryd.underlying3 f0
    obtain ⟨c1, h1⟩ := one 1 (by omega)
    obtain ⟨c2, h2⟩ := one 2 (by omega)
    rw [h1] at f1
    rw [h2] at f2
    obtain ⟨fa, fl, fc, rfl, hfi⟩ := fils_in f1
    obtain ⟨sa, sc, sl, rfl, hsm⟩ := sms_in f2
    have hn := sms_none_in f2
    refine ⟨⟨z1, fl, sl⟩, fa, fc, sa, sc, ?_, ⟨i64R_of wz1, hfi, hsm⟩, hn⟩
    congr 1
    apply Array.ext'
    apply List.ext_getElem?
    intro i
    rw [rowArr_get]
    by_cases hi : i < 3
    · rw [if_pos hi]
      have hc : i = 0 ∨ i = 1 ∨ i = 2 := by omega
      rcases hc with rfl | rfl | rfl
      · exact part_get (j := 0) e1 (by omega)
      · exact part_get (j := 0) h1 (by omega)
      · exact part_get (j := 0) h2 (by omega)
    · rw [if_neg hi, List.getElem?_eq_none (by omega)]
end
end Go.Proofs.YtechekkojinkmaaDoor
end

section
namespace Go.Proofs.YtechekkojinkmaaDoor
open Go.ChangeShapes Go.WideShapes Go.ChangeAt Go.RowKit Go.Joins Go.MapKept
set_option linter.unusedVariables false

def keyV (k : Int × Int) : Value := .agg #[.int .i64 k.1, .int .i64 k.2]
def keyR (k : Int × Int) : Prop := i64R k.1 ∧ i64R k.2
theorem keyV_inj {a b : Int × Int} (h : keyV a = keyV b) : a = b := by
  unfold keyV at h
  injection h with h
  have h2 := congrArg Array.toList h
  simp at h2
  exact Prod.ext h2.1 h2.2
theorem partLaw : WideMaps.KeyLaw Tryd.prog 89 := deep_law (m := 4) (by decide) (by kernel_rfl) (by kernel_rfl) (by kernel_rfl)
theorem part_key {k : Int × Int} (h : keyR k) : ∃ l, keyOf Tryd.prog 89 (keyV k) = some l := by
  obtain ⟨⟨a1, a2⟩, b1, b2⟩ := h
  have m1 : IntKind.i64.min = -9223372036854775808 := by kernel_rfl
  have m2 : IntKind.i64.max = 9223372036854775807 := by kernel_rfl
  have w1 : (Lit.int .i64 k.1).wf = true := by simp [Lit.wf]; omega
  have w2 : (Lit.int .i64 k.2).wf = true := by simp [Lit.wf]; omega
  have e1 : Tryd.prog.keyType 89 = true := by kernel_rfl
  have e2 : (keyV k).formed Tryd.prog 89 = true := by kernel_rfl
  have n0 : decide (0 < Tryd.prog.types.size) = true := by kernel_rfl
  have n1 := of_decide_eq_true n0
  obtain ⟨n, hn⟩ : ∃ n, Tryd.prog.types.size + 1 = n + 1 + 1 := ⟨Tryd.prog.types.size - 1, by omega⟩
  have u0 : Tryd.prog.underlying 3 = some (.int .i64) := Tryd.underlying3
  have c1 : Tryd.prog.cellsOf 3 = 1 := by kernel_rfl
  have c2 : Tryd.prog.cellsOf 89 = 2 := by kernel_rfl
  unfold keyOf
  rw [Tryd.underlying89]
  simp only [e1, e2, Bool.and_self, if_true, hn]
  simp [keyV, Value.cells, Program.keyLits, Tryd.underlying89, u0, c1, c2, w1, w2]

abbrev Mp := List ((Int × Int) × Nat)
def entV (x : (Int × Int) × Nat) : Value × Value := (keyV x.1, .int .i64 (x.2 : Int))
structure MpAt (w : World) (b : Nat) (M : Mp) : Prop where
  here : ∃ es clock, w.heap[b]? = some (.map es clock) ∧ es.toList.map (fun e => (e.key, e.val)) = M.map entV
  rng : ∀ x ∈ M, keyR x.1
theorem MpAt.new (w : World) : MpAt (w.alloc (.map #[] 0)) w.heap.size [] := ⟨⟨#[], 0, heap_alloc_last w _, rfl⟩, fun x hx => (by cases hx)⟩
theorem MpAt.lt {w : World} {b : Nat} {M : Mp} (h : MpAt w b M) : b < w.heap.size := by
  obtain ⟨es, c, h1, _⟩ := h.here
  exact (Array.getElem?_eq_some_iff.1 h1).1
theorem MpAt.fr {w w' : World} {b : Nat} {M : Mp} {X : Nat → Prop} (h : MpAt w b M) (k : Fr X w w') (hX : ¬ X b) : MpAt w' b M := by
  have hl := h.lt
  obtain ⟨es, c, h1, h2⟩ := h.here
  exact ⟨⟨es, c, (k.block b hl hX).trans h1, h2⟩, h.rng⟩
theorem MpAt.keys {M : Mp} {es : List MapEntry} (h : es.map (fun e => (e.key, e.val)) = M.map entV) (hr : ∀ x ∈ M, keyR x.1) : ∀ e ∈ es, ∃ l, keyOf Tryd.prog 89 e.key = some l := fun e he => by
  have h1 : (e.key, e.val) ∈ M.map entV := h ▸ List.mem_map.2 ⟨e, he, rfl⟩
  obtain ⟨x, hx, hxe⟩ := List.mem_map.1 h1
  have h2 : keyV x.1 = e.key := congrArg Prod.fst hxe
  rw [← h2]
  exact part_key (hr x hx)
theorem MpAt.look {w : World} {b : Nat} {M : Mp} (h : MpAt w b M) {k : Int × Int} (hk : keyR k) :
    (∃ v, (k, v) ∈ M ∧ (Instr.lookup 85 (.map (some b)) (keyV k) true).run Tryd.prog w = .ok (.tuple #[.int .i64 (v : Int), .bool true]) w) ∨
    ((∀ x ∈ M, x.1 ≠ k) ∧ (Instr.lookup 85 (.map (some b)) (keyV k) true).run Tryd.prog w = .ok (.tuple #[.int .i64 0, .bool false]) w) := by
  obtain ⟨es, c, h1, h2⟩ := h.here
  obtain ⟨l, hl⟩ := part_key hk
  have hz : (zeroValue 3).run Tryd.prog w = .ok (.int .i64 0) w := by kernel_rfl
  rcases partLaw.find w hl es.toList (MpAt.keys h2 h.rng) with ⟨f1, f2⟩ | ⟨j, e0, f1, f2, f3⟩
  · refine .inr ⟨fun x hx e => ?_, by simp [Instr.lookup, run_underlying Tryd.underlying85, MapKept.run_getObj_map h1, partLaw.check w _ hl, f1, hz, Result.andThen]⟩
    have h3 : entV x ∈ es.toList.map (fun e => (e.key, e.val)) := h2 ▸ List.mem_map.2 ⟨x, hx, rfl⟩
    obtain ⟨y, hy, hye⟩ := List.mem_map.1 h3
    refine f2 y hy ?_
    have h4 : y.key = keyV x.1 := congrArg Prod.fst hye
    rw [h4, e]
  · left
    have h3 : (e0.key, e0.val) ∈ M.map entV := h2 ▸ List.mem_map.2 ⟨e0, List.mem_of_getElem? f2, rfl⟩
    obtain ⟨x, hx, hxe⟩ := List.mem_map.1 h3
    have h4 : keyV x.1 = keyV k := (congrArg Prod.fst hxe).trans f3
    have h5 : Value.int .i64 (x.2 : Int) = e0.val := congrArg Prod.snd hxe
    have h6 := keyV_inj h4
    refine ⟨x.2, by rw [← h6]; exact hx, by simp [Instr.lookup, run_underlying Tryd.underlying85, MapKept.run_getObj_map h1, partLaw.check w _ hl, f1, ← h5, Result.andThen]⟩
theorem MpAt.add {w : World} {b : Nat} {M : Mp} (h : MpAt w b M) {k : Int × Int} (hk : keyR k) (hno : ∀ x ∈ M, x.1 ≠ k) (v : Nat) :
    ∃ w', (Instr.mapUpdate 85 (.map (some b)) (keyV k) (.int .i64 (v : Int))).run Tryd.prog w = .ok () w' ∧ MpAt w' b (M ++ [(k, v)]) ∧ Fr (fun j => j = b) w w' := by
  obtain ⟨es, c, h1, h2⟩ := h.here
  obtain ⟨l, hl⟩ := part_key hk
  rcases partLaw.find w hl es.toList (MpAt.keys h2 h.rng) with ⟨f1, f2⟩ | ⟨j, e0, f1, f2, f3⟩
  · obtain ⟨g1, g2⟩ := MapKept.heap_set (o' := .map (es.push ⟨keyV k, .int .i64 (v : Int), c⟩) (c + 1)) h1
    refine ⟨{ w with heap := w.heap.setIfInBounds b (.map (es.push ⟨keyV k, .int .i64 (v : Int), c⟩) (c + 1)) }, ?_, ⟨⟨_, _, g1, ?_⟩, fun x hx => ?_⟩, ⟨rfl, rfl, rfl, by simp, fun i hi hx => g2 i hx⟩⟩
    · simp [Instr.mapUpdate, run_underlying Tryd.underlying85, MapKept.run_getObj_map h1, partLaw.check w false hl, f1, MapKept.run_setObj_map _ h1, Result.andThen]
    · rw [Array.toList_push, List.map_append, List.map_append, h2]
      rfl
    · rcases List.mem_append.1 hx with hx | hx
      · exact h.rng x hx
      · simp only [List.mem_singleton] at hx
        rw [hx]; exact hk
  · exfalso
    have h3 : (e0.key, e0.val) ∈ M.map entV := h2 ▸ List.mem_map.2 ⟨e0, List.mem_of_getElem? f2, rfl⟩
    obtain ⟨x, hx, hxe⟩ := List.mem_map.1 h3
    exact hno x hx (keyV_inj ((congrArg Prod.fst hxe).trans f3))
theorem wpList_mapUp {ops : Array Oper} {rest : List Oper} {o : Oper} {a : Act} {w : World} {Q : Exit → Act → World → Prop} (hgd : o.guard = none) (t : TypeId) (m x y : Operand) (ho : o.op = .mapUpdate t m x y)
    (mv kv v : Value) (hm : a.eval m = mv) (hx : a.eval x = kv) (hy : a.eval y = v) (w' : World) (hr : (Instr.mapUpdate t mv kv v).run Tryd.prog w = .ok () w')
    (h : wpList Tryd.prog ops Q rest (a.put o.dst undef) w') : wpList Tryd.prog ops Q (o :: rest) a w := by
  refine wpList_plain hgd fun K hK => ?_
  unfold Oper.wp execOp
  simp only [ho, hm, hx, hy, Sem.run_bind, Sem.run_pure, hr, Result.andThen_ok]
  exact hK _ _ h
theorem wpList_look {ops : Array Oper} {rest : List Oper} {o : Oper} {a : Act} {w : World} {Q : Exit → Act → World → Prop} (hgd : o.guard = none) (t : TypeId) (m x : Operand) (c : Bool) (ho : o.op = .lookup t m x c)
    (mv kv v : Value) (hm : a.eval m = mv) (hx : a.eval x = kv) (hr : (Instr.lookup t mv kv c).run Tryd.prog w = .ok v w)
    (h : wpList Tryd.prog ops Q rest (a.put o.dst v) w) : wpList Tryd.prog ops Q (o :: rest) a w := by
  refine wpList_plain hgd fun K hK => ?_
  unfold Oper.wp execOp
  simp only [ho, hm, hx, Sem.run_bind, Sem.run_pure, hr, Result.andThen_ok]
  exact hK _ _ h
/-- A key's two cells. -/
def kvV (k : Int × Int) (j : Nat) : Value := if j = 0 then .int .i64 k.1 else .int .i64 k.2
theorem keyV_row (k : Int × Int) : keyV k = .agg (rowArr 2 (kvV k)) := rfl

/-! Which packets of a set come first. -/

def partOf (p : Pk) : Int × Int := (p.kind, if p.kind = 1 then 0 else p.index)
theorem part_rng {p : Pk} (h : PkIn p) : keyR (partOf p) := by
  unfold partOf keyR
  refine ⟨h.kind, ?_⟩
  simp only
  split
  · exact i64R_small 0 (by decide)
  · exact h.index
structure Fst (F : List Pw) (name : List Nat) (k : Nat) (M : Mp) : Prop where
  one : ∀ x ∈ M, ∃ f, x.2 < k ∧ F[x.2]? = some f ∧ f.p.set = name ∧ partOf f.p = x.1
  all : ∀ i f, i < k → F[i]? = some f → f.p.set = name → ∃ v, (partOf f.p, v) ∈ M
  nd : (M.map (·.1)).Nodup
theorem Fst.zero (F : List Pw) (name : List Nat) : Fst F name 0 [] := ⟨fun x hx => (by cases hx), fun i f hi => (by omega), List.nodup_nil⟩
theorem Fst.skip {F : List Pw} {name : List Nat} {k : Nat} {M : Mp} (h : Fst F name k M) {f : Pw} (hf : F[k]? = some f) (hn : f.p.set ≠ name) : Fst F name (k + 1) M :=
  ⟨fun x hx => by obtain ⟨g, h1, h2⟩ := h.one x hx; exact ⟨g, by omega, h2⟩, fun i g hi hg hs => by
    by_cases e : i = k
    · subst e; rw [hf] at hg; cases hg; exact absurd hs hn
    · exact h.all i g (by omega) hg hs, h.nd⟩
theorem Fst.had {F : List Pw} {name : List Nat} {k : Nat} {M : Mp} (h : Fst F name k M) {f : Pw} (hf : F[k]? = some f) {v : Nat} (hv : (partOf f.p, v) ∈ M) : Fst F name (k + 1) M :=
  ⟨fun x hx => by obtain ⟨g, h1, h2⟩ := h.one x hx; exact ⟨g, by omega, h2⟩, fun i g hi hg hs => by
    by_cases e : i = k
    · subst e; rw [hf] at hg; cases hg; exact ⟨v, hv⟩
    · exact h.all i g (by omega) hg hs, h.nd⟩
theorem Fst.add {F : List Pw} {name : List Nat} {k : Nat} {M : Mp} (h : Fst F name k M) {f : Pw} (hf : F[k]? = some f) (hn : f.p.set = name) (hno : ∀ x ∈ M, x.1 ≠ partOf f.p) : Fst F name (k + 1) (M ++ [(partOf f.p, k)]) := by
  refine ⟨fun x hx => ?_, fun i g hi hg hs => ?_, ?_⟩
  · rcases List.mem_append.1 hx with hx | hx
    · obtain ⟨g, h1, h2⟩ := h.one x hx; exact ⟨g, by omega, h2⟩
    · simp only [List.mem_singleton] at hx
      subst hx
      exact ⟨f, by show k < k + 1; omega, hf, hn, rfl⟩
  · by_cases e : i = k
    · subst e; rw [hf] at hg; cases hg; exact ⟨i, by simp⟩
    · obtain ⟨v, hv⟩ := h.all i g (by omega) hg hs
      exact ⟨v, List.mem_append_left _ hv⟩
  · rw [List.map_append, List.nodup_append]
    refine ⟨h.nd, by simp, fun a ha b hb => ?_⟩
    simp only [List.map_cons, List.map_nil, List.mem_singleton] at hb
    subst hb
    obtain ⟨x, hx, rfl⟩ := List.mem_map.1 ha
    exact hno x hx
end Go.Proofs.YtechekkojinkmaaDoor
end
