/-
  Package packet's Directory.
  Package packet's Name.
  Rows of files, made by append; pushes where statements leave their order open.
  A map from a packet's kind and index: its look-ups, its entries.
-/
import Derived.Test.YtfgaohilpbocbaaGreatDoorMm19
import Derived.DeepKeys3
import Derived.WideKeyMaps2
section
namespace Go.Proofs.YtfgaohilpbocbaaGreatDoor
open Go.ChangeShapes Go.WideShapes Go.ChangeAt Go.RowKit Go.Joins
set_option linter.unusedVariables false

/-- A set's name, and its directory. -/
def nameS (S : St) : List Nat := nameOf (dirTo S S.files.length)
def dirS (S : St) : List Pk := (dirTo S S.files.length).map (withSet (nameS S))
def DirPost (S : St) (w : World) (e : Ending) (w' : World) : Prop :=
  (FormedP S → ∃ v F, e = .returned (.tuple #[v, .int .i64 0]) ∧ PSt w w' v F ∧ F.map (·.p) = dirS S) ∧ (¬ FormedP S → e = .returned (.tuple #[.slice none 0 0, .int .i64 1]) ∧ Below w.heap.size w w')
theorem PSt.first {w0 w : World} {g : Nat} {f : Pw} (hg : w.heap[g]? = some (.cells (rowArr 51 (pwV f)) 100 (0, 0))) (h0 : w0.heap.size ≤ g) (hb : Below w0.heap.size w0 w) (hp : PkAt w f.p f.sa f.sc f.da f.dc)
    (h1 : f.p.sums = []) (h2 : f.p.data = []) : PSt w0 w (.slice (some ⟨g, 0, none⟩) 1 1) [f] := by
  refine ⟨⟨by rw [encP_len], .inr ⟨g, 1, _, rfl, h0, hg, Nat.le_refl _, by unfold maxLen; omega, by rw [rowArr_size], ?_⟩⟩, hb, fun x hx => ?_⟩
  · simp only [encP, List.flatMap_cons, List.flatMap_nil, List.append_nil, rowArr, List.length_singleton, oneP]
    exact List.take_of_length_le (by simp)
  · obtain rfl : x = f := by simpa using hx
    exact ⟨hp, fun h => absurd h1 h, fun h => absurd h2 h⟩
set_option maxRecDepth 1000000 in
set_option maxHeartbeats 16000000 in
theorem directory_any (S : St) (fa : Option Addr) (fc : Nat) (sa : Option Addr) (sc : Nat) (w : World) (hs : SetAt w S fa fc sa sc) (hm : Mx w) (ht : Tabs w) (hsn : sa = none → sc = 0) :
    Calls Tryz.prog 61 #[.agg (rowArr 3 (setV S fa fc sa sc))] w (DirPost S w) := by
  have mixed : Tryz.prog.follows .mixedOrders = true := by kernel_rfl
  have hB0 : Below w.heap.size w (w.alloc (.cells (rowArr 3 (setV S fa fc sa sc)) 30)) := (Below.refl _ _).alloc (Nat.le_refl _) _
  have HX := Lib.hid (SetBox.new w S fa fc sa sc)
  have HXB : Hid ((w.alloc (.cells (rowArr 3 (setV S fa fc sa sc)) 30)).heap[w.heap.size]? = some (.cells (rowArr 3 (setV S fa fc sa sc)) 30 (0, 0))) := heap_alloc_last w _
  have HS := Lib.hid (hs.below hB0)
  have HM := Lib.hid (hm.below hB0)
  have HT := Lib.hid (ht.below hB0)
  have HB := Lib.hid hB0
  have HF1 := Lib.hid (formed_any S fa fc sa sc _ (hs.below hB0) (hm.below hB0))
  have hfl := hs.files.lt
  have hsl := hs.slices.lt
  obtain ⟨sr1, sr2⟩ := hs.slice
  obtain ⟨PQ, hPQ⟩ : ∃ PQ, PQ = DirPost S w := ⟨_, rfl⟩
  have HPQ := Lib.hid hPQ
  rw [← hPQ]
  obtain ⟨arr, harr⟩ : ∃ arr, arr = rowArr 3 (setV S fa fc sa sc) := ⟨_, rfl⟩
  have HAR : Hid (arr.size = 3) := by show _ = _; rw [harr, rowArr_size]
  rw [← harr] at HX HXB HS HM HT HB HF1 ⊢
  clear harr hB0 hs hm ht hPQ
  go_enter Tryz.func61, Tryz.ntmps61
  go_upto_region 1 with fail
  obtain ⟨b, hb⟩ : ∃ b, b = w.heap.size := ⟨_, rfl⟩
  rw [← hb] at HX HXB ⊢
  generalize w.alloc (.cells arr 30) = w1 at *
  clear hb
  by_cases hF : FormedP S
  case' neg =>
    have HNF := Lib.hid hF
    clear hF
    go_wp2_with (first
      | (refine wpList_load_row rfl 30 _ rfl b rfl 30 arr (0, 0) _ HXB.out Tryz.underlying30 rfl (by rw [HAR.out]; kernel_rfl) ?_)
      | (go_at_call 105; (with_reducible refine HF1.out.mono ?_); rintro e w2 ⟨⟨r, rfl, hr⟩, b2⟩; obtain rfl : r = false := Bool.eq_false_iff.2 (fun h => HNF.out (hr.1 h)); have HR : Hid (PQ (.returned (.tuple #[.slice none 0 0, .int .i64 1])) w2) := (by show PQ _ _; rw [HPQ.out]; exact ⟨fun h => absurd h HNF.out, fun _ => ⟨rfl, HB.out.trans (b2.mono HB.out.size)⟩⟩); clear hr b2))
    exact HR.out
  have HFO := Lib.hid hF
  clear hF
  go_upto_region 3 with (first
      | (refine wpList_load_row rfl 30 _ rfl b rfl 30 arr (0, 0) _ HXB.out Tryz.underlying30 rfl (by rw [HAR.out]; kernel_rfl) ?_)
      | (go_at_call 105; (with_reducible refine HF1.out.mono ?_); rintro e w2 ⟨⟨r, rfl, hr⟩, b2⟩; obtain rfl : r = true := hr.2 HFO.out; have HB2 := Lib.hid b2; clear hr b2))
  clear HF1 HXB
  have HX2 := Lib.hid (HX.out.below HB2.out)
  have HS2 := Lib.hid (HS.out.below HB2.out)
  have HM2 := Lib.hid (HM.out.below HB2.out)
  have HT2 := Lib.hid (HT.out.below HB2.out)
  have HBW : Hid (Below w.heap.size w w2) := HB.out.trans (HB2.out.mono HB.out.size)
  clear HX HS HM HT HB HB2
  have hf := HFO.out
  have s1 := hf.s1
  have s2 := hf.s2
  have hM64 := hf.m1
  have hL8 := hf.f2
  have hL1 := hf.f1
  have HD : Hid (DirIn S) := ⟨HS2.out.slice, HS2.out.files.rng, HS2.out.slices.rng, s1, s2, hM64, hL8⟩
  clear hf
  have c0 := HX2.out.c0
  have c1 := HX2.out.c1
  have c2 := HX2.out.c2
  go_upto_region 4 with fail
  change Code.wp _ _ _ _ (w2.alloc (.cells (rowArr 51 (pwV ⟨mainP S, none, 0, none, 0⟩)) 100))
  have z0 : PkAt w2 (mainP S) none 0 none 0 := ⟨pkIn_main HD.out.slice (by omega) (by omega), sms_none _, nil_sl _⟩
  have b3 : Below w2.heap.size w2 (w2.alloc (.cells (rowArr 51 (pwV ⟨mainP S, none, 0, none, 0⟩)) 100)) := (Below.refl _ _).alloc (Nat.le_refl _) _
  have HP0 : Hid (PSt w2 (w2.alloc (.cells (rowArr 51 (pwV ⟨mainP S, none, 0, none, 0⟩)) 100)) (.slice (some ⟨w2.heap.size, 0, none⟩) 1 1) [⟨mainP S, none, 0, none, 0⟩]) := PSt.first (heap_alloc_last w2 _) (Nat.le_refl _) b3 (z0.below b3) rfl rfl
  generalize w2.alloc (.cells (rowArr 51 (pwV ⟨mainP S, none, 0, none, 0⟩)) 100) = w3 at *
  generalize Value.slice (some ⟨w2.heap.size, 0, none⟩) 1 1 = v3 at *
  clear c0 c1 c2 b3 z0
  have c1 := (HX2.out.below HP0.out.below).c1
  have HG0 : Hid (Good S 0 0) := .zero
  have HF0 : Hid (List.map (fun f : Pw => f.p) [⟨mainP S, none, 0, none, 0⟩] = dirTo S 0) := rfl
  go_wp2_with fail
  clear c1
  go_loopw [4, 26] (fun t i wr => ∃ (n k : Nat) (v : Value) (F : List Pw), k ≤ S.files.length ∧ t = v ∧ i = .int .i64 k ∧ Hid (Good S k n) ∧ Hid (PSt w2 wr v F) ∧ Hid (F.map (fun f => f.p) = dirTo S k)) (fun _ i _ => S.files.length - (intOf i).toNat)
  case atStart => exact ⟨0, 0, v3, _, by omega, rfl, rfl, HG0, HP0, HF0⟩
  case round =>
    obtain ⟨n, k, v, F, hk, rfl, rfl, HG, HP, HFD⟩ := hrel
    clear HG0 HP0 HF0
    by_cases hlt : k < S.files.length
    · have hok1 := not_formed HG.out hlt HFO.out
      obtain ⟨fb, off, rfl, hbl, hx⟩ := fils_one (HS2.out.files.below HP.out.below) hlt
      have hok := HS2.out.files.rng _ (List.getElem_mem hlt)
      have hgd : S.files.getD k zFil = S.files[k] := by simp [List.getD, hlt]
      obtain ⟨f, hf⟩ : ∃ f, f = S.files[k] := ⟨_, rfl⟩
      rw [← hf] at hx hok hgd
      have hfst : f.first = (n : Int) := hgd ▸ hok1.first
      have hroom := hok1.room
      have HPT : Hid (partS S k = (S.slices.drop n).take (cntN f.size S.slice)) := by
        show _ = _
        unfold partS
        rw [hgd, hfst, Int.toNat_natCast]
      rw [hgd] at hroom
      have HOK1 := Lib.hid hok1
      have HGD := Lib.hid hgd
      have HOK := Lib.hid hok
      have HXC := Lib.hid hx
      obtain ⟨SX, hSX⟩ : ∃ SX, SX = rowArr 35 (filV f) := ⟨_, rfl⟩
      have VX : Hid (rowArr 35 (filV f) = SX) := hSX.symm
      have hSXs : SX.size = 35 := by rw [hSX, rowArr_size]
      have hSX1 : SX.all (·.oneCell') = true := by rw [hSX]; exact oneCell_fil f
      have HSXs := Lib.hid hSXs
      have HSX1 := Lib.hid hSX1
      have HALL : Hid (∀ c : Array Value, (wr.alloc (.cells c 98)).heap[wr.heap.size]? = some (.cells c 98 (0, 0))) := fun c => heap_alloc_last wr _
      have HALB : Hid (∀ c : Array Value, Below wr.heap.size wr (wr.alloc (.cells c 98))) := fun c => (Below.refl _ _).alloc (Nat.le_refl _) _
      clear hx hok hf hSX hSXs hSX1 hgd hok1
      obtain ⟨c, hc⟩ : ∃ c, c = cntN f.size S.slice := ⟨_, rfl⟩
      rw [← hc] at hroom HPT
      have HCC := Lib.hid hc
      have hc63 : c ≤ 64 := by omega
      clear hc
      go_upto_region 7 with (first
        | (refine wpList_load_v (by rfl) 98 _ rfl fb (off + k * 35) 35 _ SX VX.out rfl _ HXC.out und_file rfl (by kernel_rfl) ?_)
        | (refine wpList_store_arr rfl 98 _ _ rfl wr.heap.size SX rfl rfl 98 _ (HALL.out _) (by rw [HSXs.out]; kernel_rfl) (by rw [HSXs.out]; rfl) HSX1.out ?_; intro w7 HC7 hf7; have HB67 : Hid (Below wr.heap.size wr w7) := (HALB.out _).trans (hf7.out.below (HALB.out _).size (fun k hk e => by omega)); clear hf7 HALL HALB))
      have HP7 := Lib.hid (HP.out.later HB67.out)
      have HNE : Hid (u4.ownBlock ≠ some wr.heap.size) := fun e => by have := (HP.out.own.at e).2; omega
      obtain ⟨g, hg⟩ : ∃ g, g = wr.heap.size := ⟨_, rfl⟩
      rw [← hg] at HC7 HNE
      rw [← hg]
      rw [← VX.out] at HC7
      have hX7 : Row w7 g 98 35 35 (filV f) := Row.of_whole HC7.out
      obtain ⟨r0, r1, r34⟩ := fil_row hX7
      rw [hfst] at r34
      have k1 := cell_regrown r1
      have k34 := cell_regrown r34
      have kb0 := cell_regrown (HX2.out.below HP7.out.below).c0
      have CN := fun d os => Calls.regrown_of (v := .int .i64 (c : Nat)) ((rcount_any f.size S.slice (Go.Sort.grow (redrawn w7 d) os) HOK.out.size HS2.out.slice).mono fun e w' ⟨he, hw⟩ => ⟨by rw [he, HCC.out], hw ▸ Below.refl _ _⟩)
      clear HB67 HXC HSXs HSX1 hg HP r0 r1 r34
      refine wp_region_quiet_below mixed (by kernel_rfl) ?_
      repeat (first | go_big_quiet_step (exact CN _ _) | quiet_step (exact CN _ _))
      refine wpQuiet_nil ?_
      intro _ hw'
      obtain ⟨⟨dq, osq⟩, hw''⟩ := hw'
      subst hw''
      have HP8 := Lib.hid (HP7.out.later (below_regrown w7 dq osq))
      have HC8 : Hid ((Go.Sort.grow (redrawn w7 dq) osq).heap[g]? = some (.cells (rowArr 35 (filV f)) 98 (0, 0))) := ((below_regrown w7 dq osq).block g (Array.getElem?_eq_some_iff.1 HC7.out).1).trans HC7.out
      clear k1 k34 kb0 CN HC7 HP7 hX7
      generalize Go.Sort.grow (redrawn w7 dq) osq = w8 at *
      have hFl : F.length = 2 * k + 1 := by rw [← dirTo_len S k, ← HFD.out, List.length_map]
      have hln : (partS S k).length = c := by rw [HPT.out, List.length_take, List.length_drop]; omega
      obtain ⟨wd, hwd⟩ : ∃ wd, wd = w8.drew := ⟨_, rfl⟩
      have HPD : Hid (PSt w2 wd u4 F) := by rw [hwd]; exact HP8.out.later (Below.refl _ _).drew
      have hCD : wd.heap[g]? = some (.cells (rowArr 35 (filV f)) 98 (0, 0)) := by rw [hwd]; exact HC8.out
      have hgl := (Array.getElem?_eq_some_iff.1 hCD).1
      have hXD := HX2.out.below HPD.out.below
      have hbl2 : b < w2.heap.size := World.block_lt_of_cell? w2 _ HX2.out.c0
      have hbl3 : b < wd.heap.size := World.block_lt_of_cell? wd _ hXD.c0
      have hbo : ¬ u4.ownBlock = some b := fun e => by have := (HPD.out.own.at e).1; omega
      have k44 : ∀ u : KeepW wd (fun j => u4.ownBlock = some j), u.v.cell? ⟨b, 2, none⟩ = some (.slice sa S.slices.length sc) := fun u => (u.cell hbl3 hbo).trans hXD.c2
      have k46 : ∀ u : KeepW wd (fun j => u4.ownBlock = some j), u.v.cell? ⟨g, 34, none⟩ = some (.int .i64 (n : Int)) := fun u => (u.cell hgl HNE.out).trans (by rw [cell_of_block hCD, ← hfst]; rfl)
      have KX : Hid (∀ u : KeepW wd (fun j => u4.ownBlock = some j), ∀ j, j < 35 → u.v.cell? ⟨g, 0 + j, none⟩ = some (filV f j)) := fun u j hj => (u.cell hgl HNE.out).trans (by rw [cell_of_block hCD, Nat.zero_add]; simp [rowArr, hj])
      obtain ⟨a2, cap2, hsl2, hsm2, hz2⟩ := sms_slice2 (HS2.out.slices.below HPD.out.below) n c hroom hsn
      obtain ⟨FA, hFA⟩ : ∃ FA, FA = rowArr 51 (pwV ⟨fileP k f, none, 0, none, 0⟩) := ⟨_, rfl⟩
      have HFA := Lib.hid hFA
      have hbf := built_file2 k f
      rw [VX.out] at hbf
      have HBF : Hid (Tryz.prog.built 100 [(1, .int .i64 2), (5, .int .i64 (k : Int)), (6, .agg SX)] = some FA) := by show _ = _; rw [hbf, hFA]; rfl
      rw [← HPT.out] at hsm2
      have hCl := cloneSm_any a2 cap2 (partS S k) wd (by omega) hsm2 hz2
      rw [hln] at hCl
      have HCL := Lib.hid hCl
      have HLN := Lib.hid hln
      have HGL := Lib.hid hgl
      clear hFA hbf hCl hln hsm2 hz2 hXD hbl2 hbl3 hbo hCD HC8 HP8
      go_wp2_with fail
      refine growK_begin 15 (fun w' => ∃ u : KeepW wd (fun j => u4.ownBlock = some j), w' = u.v) (by kernel_rfl) ?_
      rw [← hwd]
      clear hwd
      refine growK_take (by kernel_rfl) [0, 1, 2] 13 _ _ (by kernel_rfl) _ (keep_class (Fr.refl _ _)) ?_
      simp only [opsAt, List.getElem?_toArray, List.getElem?_cons_succ, List.getElem?_cons_zero]
      repeat (first
        | (refine wpQuiet_load_v (by rfl) 98 _ rfl g 0 35 _ SX VX.out rfl _ (fun w hw j hj => by obtain ⟨u, rfl⟩ := hw; exact KX.out u j hj) und_file rfl (by kernel_rfl) ?_)
        | go_big_quiet_step (fail) | quiet_step (fail))
      refine wpQuiet_nil ?_
      refine growK_build (by kernel_rfl) 3 100 _ FA rfl rfl (by decide) (by kernel_rfl) (by kernel_rfl) (by kernel_rfl) (by kernel_rfl) (by kernel_rfl) (by rfl) (by go_simp; exact HBF.out) _ (keep_class (Fr.refl _ _)) ?_
      refine growK_take (by kernel_rfl) [4, 5, 6, 7, 8, 9, 10] 5 _ _ (by kernel_rfl) _ (keep_class (Fr.refl _ _)) ?_
      simp only [opsAt, List.getElem?_toArray, List.getElem?_cons_succ, List.getElem?_cons_zero]
      repeat (first | go_big_quiet_step (fail) | quiet_step (fail))
      refine wpQuiet_nil ?_
      clear k44 k46 hsl2 KX
      refine growK_one 11 (by kernel_rfl) (fun K hK => ?_)
      simp only [stepOf, List.getElem?_toArray, List.getElem?_cons_succ, List.getElem?_cons_zero]
      go_simp
      go_at_call 107
      (with_reducible refine HCL.out.mono ?_)
      rintro e w9 ⟨sa9, sc9, rfl, hs9, hq9, hb9⟩
      have HS9 := Lib.hid hs9
      have HQ9 := Lib.hid hq9
      have HB9 := Lib.hid hb9
      refine hK.out _ _ (keep_class (Fr.of_below HB9.out)) ?_
      clear hK K HCL hs9 hq9 hb9
      obtain ⟨SA, hSA⟩ : ∃ SA, SA = rowArr 51 (pwV ⟨sumsP k (partS S k), sa9, sc9, none, 0⟩) := ⟨_, rfl⟩
      have HSA := Lib.hid hSA
      have hbu := built_sums2 k (partS S k) sa9 sc9
      rw [HLN.out] at hbu
      have HBU : Hid (Tryz.prog.built 100 [(1, .int .i64 3), (5, .int .i64 (k : Int)), (7, .slice sa9 c sc9)] = some SA) := by show _ = _; rw [hbu, hSA]; rfl
      clear hSA hbu
      refine growK_one 12 (by kernel_rfl) (fun K hK => ?_)
      simp only [stepOf, List.getElem?_toArray, List.getElem?_cons_succ, List.getElem?_cons_zero]
      rw [if_pos (by rfl)]
      refine op_build 100 _ rfl SA (by go_simp; exact HBU.out) ?_
      refine hK.out _ _ (keep_class (Fr.of_below HB9.out)) ?_
      clear hK K
      refine growK_one 13 (by kernel_rfl) (fun K hK => ?_)
      simp only [stepOf, List.getElem?_toArray, List.getElem?_cons_succ, List.getElem?_cons_zero]
      rw [if_pos (by rfl)]
      refine op_two _ _ rfl ⟨fileP k f, none, 0, none, 0⟩ ⟨sumsP k (partS S k), sa9, sc9, none, 0⟩ (congrArg Value.agg HFA.out) (congrArg Value.agg HSA.out) ?_
      have HB10 : Hid (Below w9.heap.size w9 (w9.alloc (.cells (rowArr 102 fun j => if j < 51 then pwV ⟨fileP k f, none, 0, none, 0⟩ j else pwV ⟨sumsP k (partS S k), sa9, sc9, none, 0⟩ (j - 51)) 100))) := (Below.refl _ _).alloc (Nat.le_refl _) _
      have HTC := Lib.hid (two_cells (heap_alloc_last w9 (.cells (rowArr 102 fun j => if j < 51 then pwV ⟨fileP k f, none, 0, none, 0⟩ j else pwV ⟨sumsP k (partS S k), sa9, sc9, none, 0⟩ (j - 51)) 100 (0, 0))))
      generalize w9.alloc (.cells (rowArr 102 fun j => if j < 51 then pwV ⟨fileP k f, none, 0, none, 0⟩ j else pwV ⟨sumsP k (partS S k), sa9, sc9, none, 0⟩ (j - 51)) 100) = w10 at *
      have HBw : Hid (Below wd.heap.size wd w10) := HB9.out.trans (HB10.out.mono HB9.out.size)
      refine hK.out _ _ (keep_class (Fr.of_below HBw.out)) ?_
      clear hK K
      have HPt := Lib.hid (HPD.out.later HBw.out)
      have hkok := pkIn_file (i := k) (by omega) HOK.out
      have hsok := pkIn_sums (i := k) (l := partS S k) (by omega) HS9.out.rng
      have HG1 : Hid (∀ x ∈ [(⟨fileP k f, none, 0, none, 0⟩ : Pw), ⟨sumsP k (partS S k), sa9, sc9, none, 0⟩], PkAt w10 x.p x.sa x.sc x.da x.dc ∧ ApartP u4 x) := fun x hx => by
        simp only [List.mem_cons, List.mem_nil_iff, or_false] at hx
        rcases hx with rfl | rfl
        · exact ⟨⟨hkok, sms_none _, nil_sl _⟩, fun h => absurd rfl h, fun h => absurd rfl h⟩
        · exact ⟨⟨hsok, HS9.out.below HB10.out, nil_sl _⟩, fun _ q hq e => by have := (HPD.out.own.at e).2; have := HQ9.out q hq; omega, fun h => absurd rfl h⟩
      have hsz : w2.heap.size ≤ w10.heap.size := HPt.out.below.size
      clear hkok hsok
      refine growK_one 14 (by kernel_rfl) (fun K hK => ?_)
      simp only [stepOf, List.getElem?_toArray, List.getElem?_cons_succ, List.getElem?_cons_zero]
      rw [if_pos (by rfl)]
      refine op_push_p _ (.tmp 39) (.tmp 52) rfl w2.heap.size u4 F rfl HPt.out.own w9.heap.size 0 2 2 rfl [⟨fileP k f, none, 0, none, 0⟩, ⟨sumsP k (partS S k), sa9, sc9, none, 0⟩] rfl HTC.out hsz (by omega) (by omega) ?_
      intro v11 w11 o11 g11 e11
      have HP11 := Lib.hid (HPt.out.push HG1.out o11.out g11.out e11.out)
      have HF11 : Hid (List.map (fun f : Pw => f.p) (F ++ [⟨fileP k f, none, 0, none, 0⟩, ⟨sumsP k (partS S k), sa9, sc9, none, 0⟩]) = dirTo S (k + 1)) := by
        show _ = _
        rw [List.map_append, HFD.out, dirTo, HGD.out]
        rfl
      have F11 : Hid (Fr (fun j => u4.ownBlock = some j) wd w11) := (Fr.of_below HBw.out).trans (Fr.of_grown g11.out fun b e => e)
      refine hK.out _ _ (keep_class F11.out) ?_
      clear hK K o11 g11 e11 HG1 HPt HTC
      have HG2 : Hid (Good S (k + 1) (n + c)) := by
        have := Good.next HG.out hlt HOK1.out
        rw [HGD.out, ← HCC.out] at this
        exact this
      refine growK_last (by kernel_rfl) (by kernel_rfl) (fun K hK => ?_)
      simp only [stepOf, List.getElem?_toArray, List.getElem?_cons_succ, List.getElem?_cons_zero]
      go_simp
      refine hK.out _ _ ?_
      clear hK K F11
      go_wp2_with fail
      go_roundw
      case rel => exact ⟨n + c, k + 1, v11, _, by omega, rfl, by go_num, HG2, HP11, HF11⟩
      case measure => simp [intOf]; omega
    · obtain rfl : k = S.files.length := by omega
      have hFl : F.length = 2 * S.files.length + 1 := by rw [← dirTo_len S S.files.length, ← HFD.out, List.length_map]
      obtain ⟨av, cv, hv, _, _⟩ := HP.out.own.slice
      subst hv
      obtain ⟨g0, rfl, hg0, hcx⟩ := HP.out.own.cells (i := 0) (by omega)
      obtain ⟨d1, d2⟩ := dir_ok HD.out HG.out
      rw [← HFD.out] at d1 d2
      have hgr := HG.out.room
      have dm : ∀ f ∈ F, PkIn f.p ∧ pkOk f.p ∧ f.p.file.name.length ≤ 40 ∧ f.p.data = [] ∧ f.p.set = z8 := fun f hf => d1 _ (List.mem_map.2 ⟨f, hf, rfl⟩)
      have hNM := named_any _ cv F wr HP.out.sl (fun f hf => (dm f hf).2.1) (by omega) (by omega) (fun f hf => by have := (dm f hf).2.2.1; omega) (fun f hf => by rw [(dm f hf).2.2.2.1]; simp) (HT2.out.below HP.out.below)
      have hnS : nameOf (F.map (·.p)) = nameS S := by rw [HFD.out]; rfl
      rw [hnS] at hNM
      have h8 : (nameS S).length = 8 := nameOf_len _
      have hb8 : IsByte (nameS S) := nameOf_byte _
      obtain ⟨NA, hNA⟩ : ∃ NA, NA = rowArr 8 (vOf (nameS S)) := ⟨_, rfl⟩
      have VN : Hid (rowArr 8 (vOf (nameS S)) = NA) := hNA.symm
      have HNs : Hid (NA.size = 8) := by show _ = _; rw [hNA, rowArr_size]
      have HN1 : Hid (NA.all (·.oneCell') = true) := by show _ = _; rw [hNA]; exact oneCell_v _ 8
      rw [← hNA] at hNM
      have HNM := Lib.hid hNM
      have H8 := Lib.hid h8
      have HB8 := Lib.hid hb8
      clear hcx
      have hFb : F.length ≤ 17 := by omega
      have hFp : 0 < F.length := by omega
      clear d1 d2 dm hNM hnS hNA h8 hb8 hgr hFl
      go_upto_region 11 with (first
        | (go_at_call 108; (with_reducible refine HNM.out.mono ?_); rintro e w4 ⟨rfl, b4⟩; have HB4 := Lib.hid b4; clear b4 HNM; have HALL : Hid (∀ c : Array Value, (w4.alloc (.cells c 64)).heap[w4.heap.size]? = some (.cells c 64 (0, 0))) := (fun c => heap_alloc_last w4 _); have HALB : Hid (∀ c : Array Value, Below w4.heap.size w4 (w4.alloc (.cells c 64))) := (fun c => (Below.refl _ _).alloc (Nat.le_refl _) _))
        | (refine wpList_store_arr rfl 64 _ _ rfl w4.heap.size NA rfl rfl 64 _ (HALL.out _) (by rw [HNs.out]; kernel_rfl) (by rw [HNs.out]; rfl) HN1.out ?_; intro w5 HC5 hf5; have HB5 : Hid (Below w4.heap.size w4 w5) := (HALB.out _).trans (hf5.out.below (HALB.out _).size (fun k hk e => by omega)); clear hf5 HALL HALB))
      have hg8 : g0 < w4.heap.size := Nat.lt_of_lt_of_le hg0 HB4.out.size
      obtain ⟨g8, hg8e⟩ : ∃ g8, g8 = w4.heap.size := ⟨_, rfl⟩
      rw [← hg8e] at HC5 hg8
      rw [← hg8e]
      have HP5 : Hid (PSt w2 w5 (.slice (some ⟨g0, 0, none⟩) F.length cv) (upTo (nameS S) F 0)) := (HP.out.later HB4.out).later HB5.out
      clear hg8e HB4 HB5 HP
      go_wp2_with fail
      go_loopw [59] (fun i wr => ∃ k : Nat, k ≤ F.length ∧ i = .int .i64 k ∧ Hid (PSt w2 wr (.slice (some ⟨g0, 0, none⟩) F.length cv) (upTo (nameS S) F k)) ∧ Hid (wr.heap[g8]? = some (.cells NA 64 (0, 0)))) (fun i _ => F.length - (intOf i).toNat)
      case atStart => exact ⟨0, by omega, rfl, HP5, HC5⟩
      case round =>
        obtain ⟨k, hk, rfl, HP, HC⟩ := hrel
        clear HP5 HC5
        by_cases hlt : k < F.length
        · obtain ⟨g1, c1, cur, e1, hcur, hrm, hnx⟩ := HP.out.mark (upTo_at hlt) (nameS S) H8.out HB8.out
          injection e1 with e1 e2 e3
          injection e1 with e1
          injection e1 with e1
          subst e1
          rw [upTo_next hlt] at hnx
          have HNX := Lib.hid hnx
          have HCUR := Lib.hid hcur
          have HRM : Hid (k * 51 + NA.size ≤ cur.size) := by show _ ≤ _; rw [HNs.out]; exact hrm
          have HC8 : Hid (∀ j, j < 8 → wr.cell? ⟨g8, 0 + j, none⟩ = some (vOf (nameS S) j)) := fun j hj => by
            rw [cell_of_block HC.out, Nat.zero_add, ← VN.out]
            simp [rowArr, hj]
          clear hnx hcur hrm e2 e3
          go_upto_region 15 with (first
            | (refine wpList_load_v (by rfl) 64 _ rfl g8 0 8 _ NA VN.out rfl _ HC8.out Tryz.underlying64 rfl (by kernel_rfl) ?_)
            | (refine wpList_store_in rfl 64 _ _ rfl g0 (k * 51) NA (by go_simp) rfl 100 cur HCUR.out (by rw [HNs.out]; kernel_rfl) HRM.out HN1.out ?_; intro w9 HG9 HF9))
          have HP9 := Lib.hid (HNX.out w9 (by have := HG9.out; rw [HNs.out, ← VN.out] at this; exact this) HF9.out)
          have HC9 : Hid (w9.heap[g8]? = some (.cells NA 64 (0, 0))) := (HF9.out.block g8 (Array.getElem?_eq_some_iff.1 HC.out).1 (fun e => by omega)).trans HC.out
          clear HG9 HF9
          go_wp2_with fail
          go_roundw
          case rel => exact ⟨k + 1, by omega, by go_num, HP9, HC9⟩
          case measure => simp [intOf]; omega
        · obtain rfl : k = F.length := by omega
          have HR : Hid (PQ (.returned (.tuple #[.slice (some ⟨g0, 0, none⟩) F.length cv, .int .i64 0])) wr) := by
            show PQ _ _
            rw [HPQ.out]
            exact ⟨fun _ => ⟨_, _, rfl, HP.out.base HBW.out, by rw [upTo_all, HFD.out]; rfl⟩, fun h => absurd HFO.out h⟩
          go_wp2_with fail
          exact HR.out
end Go.Proofs.YtfgaohilpbocbaaGreatDoor
end

section
namespace Go.Proofs.YtfgaohilpbocbaaGreatDoor
open Go.ChangeShapes Go.WideShapes Go.ChangeAt Go.RowKit Go.Joins
set_option linter.unusedVariables false

theorem results_cell_one {P : Program} {fn : Func} {p u : Tmp} {ty : TypeId} (h : fn.results = #[.cell p ty, .tmp u]) (tmps : Array Value) (w : World) (g : Nat) (t : TypeId) (cs : Array Value) (fr : Nat × Nat) (d : TypeDesc)
    (hp : tmps.getD p undef = .pointer (some ⟨g, 0, none⟩)) (hg : w.heap[g]? = some (.cells cs t fr))
    (hu : P.underlying ty = some d) (hd : (match d with | .struct _ | .array _ _ => true | _ => false) = true) (hi : (P.info? ty).map (·.size) = some cs.size) (a : Value) (ha : tmps.getD u undef = a) :
    (results fn tmps).run P w = .ok (.tuple #[.agg cs, a]) w := by
  have hp' : tmps[p]?.getD undef = .pointer (some ⟨g, 0, none⟩) := by simpa using hp
  have ha' : tmps[u]?.getD undef = a := by simpa using ha
  simp [results, h, hp', ha', asAddr, run_loadVar_row w g t ty cs fr d hg hu hd hi]
theorem dirS_set {S : St} {p : Pk} (h : p ∈ dirS S) : p.set = nameS S := by
  obtain ⟨q, _, rfl⟩ := List.mem_map.1 h
  rfl
theorem dirS_len (S : St) : (dirS S).length = 2 * S.files.length + 1 := by unfold dirS; rw [List.length_map, dirTo_len]
def NamePost (S : St) (w : World) (e : Ending) (w' : World) : Prop :=
  ((FormedP S → e = .returned (.tuple #[.agg (rowArr 8 (vOf (nameS S))), .int .i64 0])) ∧ (¬ FormedP S → e = .returned (.tuple #[.agg z8A, .int .i64 1]))) ∧ Below w.heap.size w w'
set_option maxRecDepth 1000000 in
set_option maxHeartbeats 4000000 in
theorem name14_any (S : St) (fa : Option Addr) (fc : Nat) (sa : Option Addr) (sc : Nat) (w : World) (hs : SetAt w S fa fc sa sc) (hm : Mx w) (ht : Tabs w) (hsn : sa = none → sc = 0) :
    Calls Tryz.prog 33 #[.agg (rowArr 3 (setV S fa fc sa sc))] w (NamePost S w) := by
  obtain ⟨PQ, hPQ⟩ : ∃ PQ, PQ = NamePost S w := ⟨_, rfl⟩
  have HPQ := Lib.hid hPQ
  rw [← hPQ]
  obtain ⟨arr, harr⟩ : ∃ arr, arr = rowArr 3 (setV S fa fc sa sc) := ⟨_, rfl⟩
  have HAR : Hid (arr.size = 3) := by show _ = _; rw [harr, rowArr_size]
  have hB0 : Below w.heap.size w (w.alloc (.cells arr 30)) := (Below.refl _ _).alloc (Nat.le_refl _) _
  have hB1 : Below w.heap.size w ((w.alloc (.cells arr 30)).alloc (.cells z8A 64)) := hB0.alloc hB0.size _
  have HB := Lib.hid hB1
  have HX1 : Hid (((w.alloc (.cells arr 30)).alloc (.cells z8A 64)).heap[w.heap.size]? = some (.cells arr 30 (0, 0))) := by
    have h1 : (w.alloc (.cells arr 30)).heap[w.heap.size]? = some (.cells arr 30 (0, 0)) := heap_alloc_last w _
    have h2 : Below (w.alloc (.cells arr 30)).heap.size (w.alloc (.cells arr 30)) ((w.alloc (.cells arr 30)).alloc (.cells z8A 64)) := (Below.refl _ _).alloc (Nat.le_refl _) _
    exact (h2.block _ (Array.getElem?_eq_some_iff.1 h1).1).trans h1
  have hs1 : (w.alloc (.cells arr 30)).heap.size = w.heap.size + 1 := by simp
  have HR1 : Hid (((w.alloc (.cells arr 30)).alloc (.cells z8A 64)).heap[w.heap.size + 1]? = some (.cells z8A 64 (0, 0))) := by
    show _ = _
    rw [← hs1]; exact heap_alloc_last _ _
  have HD := Lib.hid (directory_any S fa fc sa sc _ (hs.below hB1) (hm.below hB1) (ht.below hB1) hsn)
  rw [← harr] at HD ⊢
  clear harr hB0 hB1 hs hm ht hPQ hs1
  go_enter Tryz.func33, Tryz.ntmps33
  go_upto_region 1 with fail
  change Code.wp _ _ _ _ ((w.alloc (.cells arr 30)).alloc (.cells z8A 64))
  obtain ⟨b, hb⟩ : ∃ b, b = w.heap.size := ⟨_, rfl⟩
  have hbw : w.heap.size ≤ b := by omega
  rw [← hb] at HX1 HR1 ⊢
  generalize (w.alloc (.cells arr 30)).alloc (.cells z8A 64) = w1 at *
  clear hb
  by_cases hF : FormedP S
  case' neg =>
    have HNF := Lib.hid hF
    clear hF
    go_upto_region 3 with (first
      | (refine wpList_load_row rfl 30 _ rfl b rfl 30 arr (0, 0) _ HX1.out Tryz.underlying30 rfl (by rw [HAR.out]; kernel_rfl) ?_)
      | (go_at_call 61; (with_reducible refine HD.out.mono ?_); rintro e w2 ⟨_, hn⟩; obtain ⟨rfl, b2⟩ := hn HNF.out; have HB2 := Lib.hid b2; clear b2 hn))
    have HR2 : Hid (w2.heap[b + 1]? = some (.cells z8A 64 (0, 0))) := (HB2.out.block _ (Array.getElem?_eq_some_iff.1 HR1.out).1).trans HR1.out
    have HBw := Lib.hid (HB.out.trans (HB2.out.mono HB.out.size))
    go_wp2_with (refine wpList_store_arr rfl 64 _ _ rfl (b + 1) z8A rfl rfl 64 _ HR2.out (by kernel_rfl) rfl (by kernel_rfl) ?_; intro w3 HC3 hf3; have HB3 : Hid (Below w.heap.size w w3) := HBw.out.trans (hf3.out.below HBw.out.size (fun k hk e => by omega)); clear hf3)
    have HR : Hid (PQ (.returned (.tuple #[.agg z8A, .int .i64 1])) w3) := by
      show PQ _ _
      rw [HPQ.out]
      exact ⟨⟨fun h => absurd h HNF.out, fun _ => rfl⟩, HB3.out⟩
    exact bodyPost_ret (v := .tuple #[.agg z8A, .int .i64 1]) (results_cell_one rfl _ _ (b + 1) 64 z8A (0, 0) _ rfl HC3.out Tryz.underlying64 rfl (by kernel_rfl) (.int .i64 1) rfl) rfl HR.out
  have HFO := Lib.hid hF
  clear hF
  go_upto_region 4 with (first
      | (refine wpList_load_row rfl 30 _ rfl b rfl 30 arr (0, 0) _ HX1.out Tryz.underlying30 rfl (by rw [HAR.out]; kernel_rfl) ?_)
      | (go_at_call 61; (with_reducible refine HD.out.mono ?_); rintro e w2 ⟨hn, _⟩; obtain ⟨v, F, rfl, hp2, hf2⟩ := hn HFO.out; have HP2 := Lib.hid hp2; have HF2 := Lib.hid hf2; clear hp2 hf2 hn))
  have hFl : 0 < F.length := by rw [← List.length_map (f := fun f : Pw => f.p), HF2.out, dirS_len]; omega
  obtain ⟨av, cv, rfl, _, _⟩ := HP2.out.own.slice
  obtain ⟨g0, rfl, hg0, hcx⟩ := HP2.out.own.cells hFl
  have hset : (F[0]).p.set = nameS S := dirS_set (by rw [← HF2.out]; exact List.mem_map.2 ⟨_, List.getElem_mem hFl, rfl⟩)
  have HC8 : Hid (∀ j, j < 8 → w2.cell? ⟨g0, 0 + j, none⟩ = some (vOf (nameS S) j)) := fun j hj => by
    have := hcx j (by omega)
    rw [show 0 * 51 + j = 0 + j by omega] at this
    rw [this, ← hset]
    unfold pwV
    rw [pkV_set _ _ _ _ _ hj]
  obtain ⟨NA, hNA⟩ : ∃ NA, NA = rowArr 8 (vOf (nameS S)) := ⟨_, rfl⟩
  have VN : Hid (rowArr 8 (vOf (nameS S)) = NA) := hNA.symm
  have HNs : Hid (NA.size = 8) := by show _ = _; rw [hNA, rowArr_size]
  have HN1 : Hid (NA.all (·.oneCell') = true) := by show _ = _; rw [hNA]; exact oneCell_v _ 8
  have HR2 : Hid (w2.heap[b + 1]? = some (.cells z8A 64 (0, 0))) := (HP2.out.below.block _ (Array.getElem?_eq_some_iff.1 HR1.out).1).trans HR1.out
  have HBw := Lib.hid (HB.out.trans (HP2.out.below.mono HB.out.size))
  clear hcx hset hNA
  go_wp2_with (first
    | (refine wpList_load_v (by rfl) 64 _ rfl g0 0 8 _ NA VN.out rfl _ HC8.out Tryz.underlying64 rfl (by kernel_rfl) ?_)
    | (refine wpList_store_arr rfl 64 _ _ rfl (b + 1) NA rfl rfl 64 _ HR2.out (by rw [HNs.out]; kernel_rfl) (by rw [HNs.out]; rfl) HN1.out ?_; intro w3 HC3 hf3; have HB3 : Hid (Below w.heap.size w w3) := HBw.out.trans (hf3.out.below HBw.out.size (fun k hk e => by omega)); clear hf3))
  have HR : Hid (PQ (.returned (.tuple #[.agg NA, .int .i64 0])) w3) := by
    show PQ _ _
    rw [HPQ.out]
    exact ⟨⟨fun _ => by rw [VN.out], fun h => absurd HFO.out h⟩, HB3.out⟩
  exact bodyPost_ret (v := .tuple #[.agg NA, .int .i64 0]) (results_cell_one rfl _ _ (b + 1) 64 NA (0, 0) _ rfl HC3.out Tryz.underlying64 rfl (by rw [HNs.out]; kernel_rfl) (.int .i64 0) rfl) rfl HR.out
end Go.Proofs.YtfgaohilpbocbaaGreatDoor
end

section
namespace Go.Proofs.YtfgaohilpbocbaaGreatDoor
open Go.ChangeShapes Go.WideShapes Go.ChangeAt Go.RowKit Go.Joins
set_option linter.unusedVariables false

def oneF (x : Fil) : List Value := (List.range 35).map (filV x)
def encF (F : List Fil) : List Value := F.flatMap oneF
theorem oneF_len (f : Fil) : (oneF f).length = 35 := by simp [oneF]
theorem oneF_get (f : Fil) {k : Nat} (hk : k < 35) : (oneF f)[k]? = some (filV f k) := by
  unfold oneF
  rw [List.getElem?_map, List.getElem?_range hk]
  rfl
theorem encF_len : ∀ F : List Fil, (encF F).length = F.length * 35
  | [] => rfl
  | x :: l => by
    have := encF_len l
    unfold encF at this ⊢
    simp only [List.flatMap_cons, List.length_append, this, List.length_cons, oneF_len]
    omega
theorem encF_app (l m : List Fil) : encF (l ++ m) = encF l ++ encF m := by simp [encF]
theorem encF_get {l : List Fil} : ∀ {i : Nat} (h : i < l.length) {k : Nat} (hk : k < 35), (encF l)[i * 35 + k]? = some (filV l[i] k) := by
  induction l with
  | nil => intro i h; simp at h
  | cons x l ih =>
    intro i h k hk
    have e : encF (x :: l) = oneF x ++ encF l := rfl
    have hl := oneF_len x
    rw [e]
    cases i with
    | zero =>
      rw [List.getElem?_append_left (by omega), show 0 * 35 + k = k by omega, oneF_get x hk]
      rfl
    | succ i =>
      rw [List.getElem?_append_right (by omega), show (i + 1) * 35 + k - (oneF x).length = i * 35 + k by omega]
      exact ih (by simpa using h) hk
theorem filV_one (f : Fil) (j : Nat) : (filV f j).oneCell' = true := by
  unfold filV
  (repeat' split) <;> rfl
theorem encF_one (F : List Fil) : ∀ u ∈ encF F, u.oneCell' = true := fun u hu => by
  obtain ⟨f, _, hu⟩ := List.mem_flatMap.1 hu
  obtain ⟨k, _, rfl⟩ := List.mem_map.1 hu
  exact filV_one f k
def OwnF (B : Nat) (w : World) (v : Value) (F : List Fil) : Prop := w.ownsRow B 98 35 v F.length (encF F)
theorem OwnF.nil (B : Nat) (w : World) : OwnF B w (.slice none 0 0) [] := World.ownsRow_nil _ _ _ _
theorem OwnF.slice {B : Nat} {w : World} {v : Value} {F : List Fil} (h : OwnF B w v F) : ∃ a c, v = .slice a F.length c ∧ F.length ≤ c ∧ c ≤ maxLen := by
  rcases h.2 with ⟨h1, h2⟩ | ⟨g, cap, cur, h1, h2, h3, h4, h5, h6, h7⟩
  · exact ⟨none, 0, by rw [h1, h2], by omega, by unfold maxLen; omega⟩
  · exact ⟨_, cap, h1, h4, h5⟩
theorem OwnF.at {B : Nat} {w : World} {v : Value} {F : List Fil} (h : OwnF B w v F) {b : Nat} (hb : v.ownBlock = some b) : B ≤ b ∧ b < w.heap.size := by
  rcases h.2 with ⟨rfl, _⟩ | ⟨g, cap, cur, rfl, hB, hh, _⟩
  · simp [Value.ownBlock] at hb
  · have : g = b := by simpa [Value.ownBlock] using hb
    subst this
    exact ⟨hB, (Array.getElem?_eq_some_iff.1 hh).1⟩
theorem OwnF.kept {B : Nat} {w w' : World} {v : Value} {F : List Fil} (h : OwnF B w v F) (k : Below w.heap.size w w') : OwnF B w' v F := by
  refine ⟨h.1, ?_⟩
  rcases h.2 with h0 | ⟨g, cap, cur, e, hB, hh, r⟩
  · exact .inl h0
  · exact .inr ⟨g, cap, cur, e, hB, (k.block g (Array.getElem?_eq_some_iff.1 hh).1).trans hh, r⟩
theorem infoFil_q : ∃ i z, Tryz.prog.info? 98 = some i ∧ i.zero = some z ∧ z.cells.size = 35 ∧ i.size = 35 ∧ i.bytes = 64 := by
  have h : ((Tryz.prog.info? 98).bind fun i => i.zero.map fun z => (z.cells.size, i.size, i.bytes)) = some (35, 35, 64) := by kernel_rfl
  cases hi : Tryz.prog.info? 98 with
  | none => rw [hi] at h; cases h
  | some i =>
    rw [hi] at h
    simp only [Option.bind_some] at h
    cases hz : i.zero with
    | none => rw [hz] at h; cases h
    | some z =>
      rw [hz] at h
      simp only [Option.map_some, Option.some.injEq, Prod.mk.injEq] at h
      exact ⟨i, z, rfl, hz, h.1, h.2.1, h.2.2⟩

theorem OwnF.fils {B : Nat} {w : World} {a : Option Addr} {c : Nat} {F : List Fil} (h : OwnF B w (.slice a F.length c) F) (hr : ∀ x ∈ F, FilOk x) : Fils w a c F := by
  rcases h.2 with ⟨h1, h2⟩ | ⟨g, cap, cur, h1, h2, h3, h4, h5, h6, h7⟩
  · obtain ⟨a', c', e, h1', h2'⟩ := h.slice
    cases e
    exact ⟨hr, h1', h2', .inl (List.length_eq_zero_iff.1 h2)⟩
  · injection h1 with e1 e2 e3
    subst e3
    refine ⟨hr, h4, h5, .inr ⟨g, 0, e1, (Array.getElem?_eq_some_iff.1 h3).1, fun i hi k hk => ?_⟩⟩
    rw [cell_of_block h3, show 0 + i * 35 + k = i * 35 + k by omega, ← encF_get hi hk, ← h7, List.getElem?_take_of_lt (by omega), Array.getElem?_toList]
theorem OwnF.fr {B : Nat} {w w' : World} {v : Value} {F : List Fil} {X : Nat → Prop} (h : OwnF B w v F) (k : Fr X w w') (hX : ∀ b, v.ownBlock = some b → ¬ X b) : OwnF B w' v F := by
  refine ⟨h.1, ?_⟩
  rcases h.2 with h0 | ⟨g, cap, cur, e, hB, hh, r⟩
  · exact .inl h0
  · exact .inr ⟨g, cap, cur, e, hB, (k.block g (Array.getElem?_eq_some_iff.1 hh).1 (hX g (by rw [e]; rfl))).trans hh, r⟩
theorem OwnS.fr {B : Nat} {w w' : World} {v : Value} {F : List Sm} {X : Nat → Prop} (h : OwnS B w v F) (k : Fr X w w') (hX : ∀ b, v.ownBlock = some b → ¬ X b) : OwnS B w' v F := by
  refine ⟨h.1, ?_⟩
  rcases h.2 with h0 | ⟨g, cap, cur, e, hB, hh, r⟩
  · exact .inl h0
  · exact .inr ⟨g, cap, cur, e, hB, (k.block g (Array.getElem?_eq_some_iff.1 hh).1 (hX g (by rw [e]; rfl))).trans hh, r⟩
theorem own_apart {B C : Nat} {w : World} {u v : Value} {F : List Fil} {G : List Sm} (hf : OwnF B w u F) (hs : OwnS C w v G) {b : Nat} (h1 : u.ownBlock = some b) (h2 : v.ownBlock = some b) : False := by
  rcases hf.2 with ⟨rfl, _⟩ | ⟨g, cap, cur, e, _, hh, _⟩
  · simp [Value.ownBlock] at h1
  rcases hs.2 with ⟨rfl, _⟩ | ⟨g', cap', cur', e', _, hh', _⟩
  · simp [Value.ownBlock] at h2
  rw [e] at h1
  rw [e'] at h2
  have e1 : g = b := Option.some.inj h1
  have e2 : g' = b := Option.some.inj h2
  subst e1
  subst e2
  rw [hh] at hh'
  simp at hh'
theorem OwnF.none {B : Nat} {w : World} {c : Nat} {F : List Fil} (h : OwnF B w (.slice none F.length c) F) : c = 0 := by
  rcases h.2 with ⟨h1, h2⟩ | ⟨g, cap, cur, h1, _⟩
  · injection h1
  · injection h1 with e; cases e
theorem OwnS.none {B : Nat} {w : World} {c : Nat} {F : List Sm} (h : OwnS B w (.slice none F.length c) F) : c = 0 := by
  rcases h.2 with ⟨h1, h2⟩ | ⟨g, cap, cur, h1, _⟩
  · injection h1
  · injection h1 with e; cases e
theorem builtF_one (V : Nat → Value) : Tryz.prog.builtSlice 98 1 [(0, .agg (rowArr 35 V))] = some (rowArr 35 V) := by kernel_rfl
theorem op_oneF {o : Oper} {a : Act} {w : World} {K : Act → World → Prop} {Q : Exit → Act → World → Prop} (x : Operand) (ho : o.op = .buildSlice 27 1 #[(0, x)]) (f : Fil) (hx : a.eval x = .agg (rowArr 35 (filV f)))
    (h : K (a.put o.dst (.slice (some ⟨w.heap.size, 0, none⟩) 1 1)) (w.alloc (.cells (rowArr 35 (filV f)) 98))) : o.wp Tryz.prog a w K Q := by
  have hf := builtF_one (filV f)
  unfold Program.builtSlice at hf
  cases hie : Tryz.prog.info? 98 with
  | none => simp [hie] at hf
  | some ie =>
    simp only [hie] at hf
    cases hz : ie.zero with
    | none => simp [hz] at hf
    | some z =>
      simp only [hz] at hf
      by_cases hc : 1 * ie.size > 2 ^ 24 ∨ 1 * ie.size = 0
      · rw [if_pos hc] at hf; cases hf
      · rw [if_neg hc] at hf
        refine wp_buildSlice 27 98 1 _ ho _ ie z Tryz.underlying27 hie hz (fun h' => hc (Or.inl h')) (fun h' => hc (Or.inr h')) ?_ h
        simp only [List.map_toArray, List.map_cons, List.map_nil, hx]
        exact hf
theorem op_push_f {o : Oper} {a : Act} {K : Act → World → Prop} {Q : Exit → Act → World → Prop} (w : World) (s x : Operand)
    (ho : o.op = .call { callee := .builtin .append, args := #[s, x], argTypes := #[27, 27] })
    (B : Nat) (v : Value) (l : List Fil) (hs : a.eval s = v) (hown : OwnF B w v l) (g : Nat) (hx : a.eval x = .slice (some ⟨g, 0, none⟩) 1 1)
    (f : Fil) (hc : w.heap[g]? = some (.cells (rowArr 35 (filV f)) 98 (0, 0))) (hB : B ≤ w.heap.size) (hlen : l.length ≤ 1000000)
    (h : ∀ v' w', Hid (OwnF B w' v' (l ++ [f])) → Hid (w.grownBy w' v.ownBlock) → Hid (v'.ownBlock = v.ownBlock ∨ v'.ownBlock = some w.heap.size) → K (a.put o.dst v') w') : o.wp Tryz.prog a w K Q := by
  obtain ⟨i0, z, hi, hz0, hzs, hz1, hz2⟩ := infoFil_q
  have hn : ∀ j u, (encF [f])[j]? = some u → w.cell? ((⟨g, 0, none⟩ : Addr).add j) = some u := fun j u hj => by
    rw [addr_add, Nat.zero_add, cell_of_block hc]
    have e : encF [f] = oneF f := by simp [encF]
    rw [e] at hj
    have hjl : j < 35 := by
      have := (List.getElem?_eq_some_iff.1 hj).1
      rw [oneF_len] at this
      exact this
    rw [← hj, oneF_get f hjl]
    simp [rowArr, hjl]
  obtain ⟨v', w', hr, k1, k2, _, k5⟩ := run_append_own_at (P := Tryz.prog) w B 27 o.type 98 i0 z 35 64 Tryz.underlying27 hi hz0 hz1 hz2 hzs (by decide) v l.length _ hown ⟨g, 0, none⟩ 1 1 (encF [f]) (by rw [encF_len]; rfl) hn (encF_one [f]) (by unfold maxLen; omega) (by omega) hB
  unfold Oper.wp execOp
  simp only [ho, resolve, invoke, builtin, Sem.run_bind, Sem.run_pure, Result.andThen_ok, List.map_toArray, List.map_cons, List.map_nil, hs, hx, hr]
  refine h _ _ ?_ k2 k5
  show OwnF B w' v' (l ++ [f])
  unfold OwnF
  rw [List.length_append, encF_app]
  exact k1
theorem op_push_s {o : Oper} {a : Act} {K : Act → World → Prop} {Q : Exit → Act → World → Prop} (w : World) (s x : Operand)
    (ho : o.op = .call { callee := .builtin .append, args := #[s, x], argTypes := #[28, 28] })
    (B : Nat) (v : Value) (l : List Sm) (hs : a.eval s = v) (hown : OwnS B w v l) (qa : Option Addr) (c : Nat) (G : List Sm) (hx : a.eval x = .slice qa G.length c)
    (hG : Sms w qa c G) (hB : B ≤ w.heap.size) (hlen : l.length ≤ 1000000) (hlm : G.length ≤ 1000000)
    (h : ∀ v' w', Hid (OwnS B w' v' (l ++ G)) → Hid (Fr (fun b => v.ownBlock = some b) w w') → Hid (∀ b, v'.ownBlock = some b → v.ownBlock = some b ∨ w.heap.size ≤ b) → K (a.put o.dst v') w') : o.wp Tryz.prog a w K Q := by
  obtain ⟨i0, z, hi, hz0, hzs, hz1, hz2⟩ := infoS_q
  cases qa with
  | none =>
    have e0 : G = [] := by
      rcases hG.here with h | ⟨b, off, h, _⟩
      · exact h
      · cases h
    subst e0
    have hr : (Builtin.append_ #[28, 28] o.type #[v, .slice none 0 c]).run Tryz.prog w = .ok v w := by
      rcases hown.2 with ⟨rfl, h2⟩ | ⟨g, cap, cur, rfl, _, _, hnc, _⟩
      · simp [Builtin.append_, run_underlying Tryz.underlying28, sizeOf, typeInfo, hi, Builtin.lenOf, Builtin.firstCells]
      · simp [Builtin.append_, run_underlying Tryz.underlying28, sizeOf, typeInfo, hi, Builtin.lenOf, Builtin.firstCells, hnc, storeCells]
    unfold Oper.wp execOp
    simp only [ho, resolve, invoke, builtin, Sem.run_bind, Sem.run_pure, Result.andThen_ok, List.map_toArray, List.map_cons, List.map_nil, hs, hx, List.length_nil, hr]
    refine h _ _ ?_ (Fr.refl _ _) (fun b hb => .inl hb)
    show OwnS B w v (l ++ [])
    rw [List.append_nil]; exact hown
  | some ad =>
    obtain ⟨v', w', hr, k1, k2, _, k5⟩ := run_append_own_at (P := Tryz.prog) w B 28 o.type 52 i0 z 34 48 Tryz.underlying28 hi hz0 hz1 hz2 hzs (by decide) v l.length _ hown ad G.length c (encS G) (by rw [encS_len]) hG.enc (encS_one G) (by unfold maxLen; omega) (by omega) hB
    unfold Oper.wp execOp
    simp only [ho, resolve, invoke, builtin, Sem.run_bind, Sem.run_pure, Result.andThen_ok, List.map_toArray, List.map_cons, List.map_nil, hs, hx, hr]
    refine h _ _ ?_ (Fr.of_grown k2 fun b hb => hb) (fun b hb => ?_)
    · show OwnS B w' v' (l ++ G)
      unfold OwnS
      rw [List.length_append, encS_app]
      exact k1
    · rcases k5 with e | e
      · exact .inl (e ▸ hb)
      · rw [e] at hb
        exact .inr (by have := Option.some.inj hb; omega)
theorem pigeon : ∀ (n : Nat) (l : List Nat), l.Nodup → (∀ x ∈ l, x < n) → l.length ≤ n
  | 0, l, _, h => by
    cases l with
    | nil => exact Nat.le_refl _
    | cons x l => have := h x (by simp); omega
  | n + 1, l, hn, h => by
    by_cases hm : n ∈ l
    · have h1 := pigeon n (l.erase n) (hn.erase n) (fun x hx => by
        obtain ⟨h2, h3⟩ := (hn.mem_erase_iff).1 hx
        have := h x h3
        omega)
      rw [List.length_erase_of_mem hm] at h1
      omega
    · have h1 := pigeon n l hn (fun x hx => by
        have h2 := h x hx
        have h3 : x ≠ n := fun e => hm (e ▸ hx)
        omega)
      omega
end Go.Proofs.YtfgaohilpbocbaaGreatDoor
end

section
namespace Go.Proofs.YtfgaohilpbocbaaGreatDoor
open Go.ChangeShapes Go.WideShapes Go.ChangeAt Go.RowKit Go.Joins Go.MapKept
set_option linter.unusedVariables false

def keyV (k : Int × Int) : Value := .agg #[.int .i64 k.1, .int .i64 k.2]
def keyR (k : Int × Int) : Prop := i64R k.1 ∧ i64R k.2
theorem keyV_inj {a b : Int × Int} (h : keyV a = keyV b) : a = b := by
  unfold keyV at h
  injection h with h
  have h2 := congrArg Array.toList h
  simp at h2
  exact Prod.ext h2.1 h2.2
theorem partLaw : WideMaps.KeyLaw Tryz.prog 121 := deep_law (m := 4) (by decide) (by kernel_rfl) (by kernel_rfl) (by kernel_rfl)
theorem part_key {k : Int × Int} (h : keyR k) : ∃ l, keyOf Tryz.prog 121 (keyV k) = some l := by
  obtain ⟨⟨a1, a2⟩, b1, b2⟩ := h
  have m1 : IntKind.i64.min = -9223372036854775808 := by kernel_rfl
  have m2 : IntKind.i64.max = 9223372036854775807 := by kernel_rfl
  have w1 : (Lit.int .i64 k.1).wf = true := by simp [Lit.wf]; omega
  have w2 : (Lit.int .i64 k.2).wf = true := by simp [Lit.wf]; omega
  have e1 : Tryz.prog.keyType 121 = true := by kernel_rfl
  have e2 : (keyV k).formed Tryz.prog 121 = true := by kernel_rfl
  have n0 : decide (0 < Tryz.prog.types.size) = true := by kernel_rfl
  have n1 := of_decide_eq_true n0
  obtain ⟨n, hn⟩ : ∃ n, Tryz.prog.types.size + 1 = n + 1 + 1 := ⟨Tryz.prog.types.size - 1, by omega⟩
  have u0 : Tryz.prog.underlying 3 = some (.int .i64) := Tryz.underlying3
  have c1 : Tryz.prog.cellsOf 3 = 1 := by kernel_rfl
  have c2 : Tryz.prog.cellsOf 121 = 2 := by kernel_rfl
  unfold keyOf
  rw [Tryz.underlying121]
  simp only [e1, e2, Bool.and_self, if_true, hn]
  simp [keyV, Value.cells, Program.keyLits, Tryz.underlying121, u0, c1, c2, w1, w2]

abbrev Mp := List ((Int × Int) × Nat)
def entV (x : (Int × Int) × Nat) : Value × Value := (keyV x.1, .int .i64 (x.2 : Int))
structure MpAt (w : World) (b : Nat) (M : Mp) : Prop where
  here : ∃ es clock, w.heap[b]? = some (.map es clock) ∧ es.toList.map (fun e => (e.key, e.val)) = M.map entV
  rng : ∀ x ∈ M, keyR x.1
theorem MpAt.new (w : World) : MpAt (w.alloc (.map #[] 0)) w.heap.size [] := ⟨⟨#[], 0, heap_alloc_last w _, rfl⟩, fun x hx => (by cases hx)⟩
theorem MpAt.lt {w : World} {b : Nat} {M : Mp} (h : MpAt w b M) : b < w.heap.size := by
  obtain ⟨es, c, h1, _⟩ := h.here
  exact (Array.getElem?_eq_some_iff.1 h1).1
theorem MpAt.fr {w w' : World} {b : Nat} {M : Mp} {X : Nat → Prop} (h : MpAt w b M) (k : Fr X w w') (hX : ¬ X b) : MpAt w' b M := by
  have hl := h.lt
  obtain ⟨es, c, h1, h2⟩ := h.here
  exact ⟨⟨es, c, (k.block b hl hX).trans h1, h2⟩, h.rng⟩
theorem MpAt.keys {M : Mp} {es : List MapEntry} (h : es.map (fun e => (e.key, e.val)) = M.map entV) (hr : ∀ x ∈ M, keyR x.1) : ∀ e ∈ es, ∃ l, keyOf Tryz.prog 121 e.key = some l := fun e he => by
  have h1 : (e.key, e.val) ∈ M.map entV := h ▸ List.mem_map.2 ⟨e, he, rfl⟩
  obtain ⟨x, hx, hxe⟩ := List.mem_map.1 h1
  have h2 : keyV x.1 = e.key := congrArg Prod.fst hxe
  rw [← h2]
  exact part_key (hr x hx)
theorem MpAt.look {w : World} {b : Nat} {M : Mp} (h : MpAt w b M) {k : Int × Int} (hk : keyR k) :
    (∃ v, (k, v) ∈ M ∧ (Instr.lookup 117 (.map (some b)) (keyV k) true).run Tryz.prog w = .ok (.tuple #[.int .i64 (v : Int), .bool true]) w) ∨
    ((∀ x ∈ M, x.1 ≠ k) ∧ (Instr.lookup 117 (.map (some b)) (keyV k) true).run Tryz.prog w = .ok (.tuple #[.int .i64 0, .bool false]) w) := by
  obtain ⟨es, c, h1, h2⟩ := h.here
  obtain ⟨l, hl⟩ := part_key hk
  have hz : (zeroValue 3).run Tryz.prog w = .ok (.int .i64 0) w := by kernel_rfl
  rcases partLaw.find w hl es.toList (MpAt.keys h2 h.rng) with ⟨f1, f2⟩ | ⟨j, e0, f1, f2, f3⟩
  · refine .inr ⟨fun x hx e => ?_, by simp [Instr.lookup, run_underlying Tryz.underlying117, MapKept.run_getObj_map h1, partLaw.check w _ hl, f1, hz, Result.andThen]⟩
    have h3 : entV x ∈ es.toList.map (fun e => (e.key, e.val)) := h2 ▸ List.mem_map.2 ⟨x, hx, rfl⟩
    obtain ⟨y, hy, hye⟩ := List.mem_map.1 h3
    refine f2 y hy ?_
    have h4 : y.key = keyV x.1 := congrArg Prod.fst hye
    rw [h4, e]
  · left
    have h3 : (e0.key, e0.val) ∈ M.map entV := h2 ▸ List.mem_map.2 ⟨e0, List.mem_of_getElem? f2, rfl⟩
    obtain ⟨x, hx, hxe⟩ := List.mem_map.1 h3
    have h4 : keyV x.1 = keyV k := (congrArg Prod.fst hxe).trans f3
    have h5 : Value.int .i64 (x.2 : Int) = e0.val := congrArg Prod.snd hxe
    have h6 := keyV_inj h4
    refine ⟨x.2, by rw [← h6]; exact hx, by simp [Instr.lookup, run_underlying Tryz.underlying117, MapKept.run_getObj_map h1, partLaw.check w _ hl, f1, ← h5, Result.andThen]⟩
theorem MpAt.add {w : World} {b : Nat} {M : Mp} (h : MpAt w b M) {k : Int × Int} (hk : keyR k) (hno : ∀ x ∈ M, x.1 ≠ k) (v : Nat) :
    ∃ w', (Instr.mapUpdate 117 (.map (some b)) (keyV k) (.int .i64 (v : Int))).run Tryz.prog w = .ok () w' ∧ MpAt w' b (M ++ [(k, v)]) ∧ Fr (fun j => j = b) w w' := by
  obtain ⟨es, c, h1, h2⟩ := h.here
  obtain ⟨l, hl⟩ := part_key hk
  rcases partLaw.find w hl es.toList (MpAt.keys h2 h.rng) with ⟨f1, f2⟩ | ⟨j, e0, f1, f2, f3⟩
  · obtain ⟨g1, g2⟩ := MapKept.heap_set (o' := .map (es.push ⟨keyV k, .int .i64 (v : Int), c⟩) (c + 1)) h1
    refine ⟨{ w with heap := w.heap.setIfInBounds b (.map (es.push ⟨keyV k, .int .i64 (v : Int), c⟩) (c + 1)) }, ?_, ⟨⟨_, _, g1, ?_⟩, fun x hx => ?_⟩, ⟨rfl, rfl, rfl, by simp, fun i hi hx => g2 i hx⟩⟩
    · simp [Instr.mapUpdate, run_underlying Tryz.underlying117, MapKept.run_getObj_map h1, partLaw.check w false hl, f1, MapKept.run_setObj_map _ h1, Result.andThen]
    · rw [Array.toList_push, List.map_append, List.map_append, h2]
      rfl
    · rcases List.mem_append.1 hx with hx | hx
      · exact h.rng x hx
      · simp only [List.mem_singleton] at hx
        rw [hx]; exact hk
  · exfalso
    have h3 : (e0.key, e0.val) ∈ M.map entV := h2 ▸ List.mem_map.2 ⟨e0, List.mem_of_getElem? f2, rfl⟩
    obtain ⟨x, hx, hxe⟩ := List.mem_map.1 h3
    exact hno x hx (keyV_inj ((congrArg Prod.fst hxe).trans f3))
theorem wpList_mapUp {ops : Array Oper} {rest : List Oper} {o : Oper} {a : Act} {w : World} {Q : Exit → Act → World → Prop} (hgd : o.guard = none) (t : TypeId) (m x y : Operand) (ho : o.op = .mapUpdate t m x y)
    (mv kv v : Value) (hm : a.eval m = mv) (hx : a.eval x = kv) (hy : a.eval y = v) (w' : World) (hr : (Instr.mapUpdate t mv kv v).run Tryz.prog w = .ok () w')
    (h : wpList Tryz.prog ops Q rest (a.put o.dst undef) w') : wpList Tryz.prog ops Q (o :: rest) a w := by
  refine wpList_plain hgd fun K hK => ?_
  unfold Oper.wp execOp
  simp only [ho, hm, hx, hy, Sem.run_bind, Sem.run_pure, hr, Result.andThen_ok]
  exact hK _ _ h
theorem wpList_look {ops : Array Oper} {rest : List Oper} {o : Oper} {a : Act} {w : World} {Q : Exit → Act → World → Prop} (hgd : o.guard = none) (t : TypeId) (m x : Operand) (c : Bool) (ho : o.op = .lookup t m x c)
    (mv kv v : Value) (hm : a.eval m = mv) (hx : a.eval x = kv) (hr : (Instr.lookup t mv kv c).run Tryz.prog w = .ok v w)
    (h : wpList Tryz.prog ops Q rest (a.put o.dst v) w) : wpList Tryz.prog ops Q (o :: rest) a w := by
  refine wpList_plain hgd fun K hK => ?_
  unfold Oper.wp execOp
  simp only [ho, hm, hx, Sem.run_bind, Sem.run_pure, hr, Result.andThen_ok]
  exact hK _ _ h
/-- A key's two cells. -/
def kvV (k : Int × Int) (j : Nat) : Value := if j = 0 then .int .i64 k.1 else .int .i64 k.2
theorem keyV_row (k : Int × Int) : keyV k = .agg (rowArr 2 (kvV k)) := rfl

/-! Which packets of a set come first. -/

def partOf (p : Pk) : Int × Int := (p.kind, if p.kind = 1 then 0 else p.index)
theorem part_rng {p : Pk} (h : PkIn p) : keyR (partOf p) := by
  unfold partOf keyR
  refine ⟨h.kind, ?_⟩
  simp only
  split
  · exact i64R_small 0 (by decide)
  · exact h.index
structure Fst (F : List Pw) (name : List Nat) (k : Nat) (M : Mp) : Prop where
  one : ∀ x ∈ M, ∃ f, x.2 < k ∧ F[x.2]? = some f ∧ f.p.set = name ∧ partOf f.p = x.1
  all : ∀ i f, i < k → F[i]? = some f → f.p.set = name → ∃ v, (partOf f.p, v) ∈ M
  nd : (M.map (·.1)).Nodup
  first : ∀ x ∈ M, ∀ i f, i < x.2 → F[i]? = some f → f.p.set = name → partOf f.p ≠ x.1
theorem Fst.zero (F : List Pw) (name : List Nat) : Fst F name 0 [] := ⟨fun x hx => (by cases hx), fun i f hi => (by omega), List.nodup_nil, fun x hx => (by cases hx)⟩
theorem Fst.skip {F : List Pw} {name : List Nat} {k : Nat} {M : Mp} (h : Fst F name k M) {f : Pw} (hf : F[k]? = some f) (hn : f.p.set ≠ name) : Fst F name (k + 1) M :=
  ⟨fun x hx => by obtain ⟨g, h1, h2⟩ := h.one x hx; exact ⟨g, by omega, h2⟩, fun i g hi hg hs => by
    by_cases e : i = k
    · subst e; rw [hf] at hg; cases hg; exact absurd hs hn
    · exact h.all i g (by omega) hg hs, h.nd, h.first⟩
theorem Fst.had {F : List Pw} {name : List Nat} {k : Nat} {M : Mp} (h : Fst F name k M) {f : Pw} (hf : F[k]? = some f) {v : Nat} (hv : (partOf f.p, v) ∈ M) : Fst F name (k + 1) M :=
  ⟨fun x hx => by obtain ⟨g, h1, h2⟩ := h.one x hx; exact ⟨g, by omega, h2⟩, fun i g hi hg hs => by
    by_cases e : i = k
    · subst e; rw [hf] at hg; cases hg; exact ⟨v, hv⟩
    · exact h.all i g (by omega) hg hs, h.nd, h.first⟩
theorem Fst.add {F : List Pw} {name : List Nat} {k : Nat} {M : Mp} (h : Fst F name k M) {f : Pw} (hf : F[k]? = some f) (hn : f.p.set = name) (hno : ∀ x ∈ M, x.1 ≠ partOf f.p) : Fst F name (k + 1) (M ++ [(partOf f.p, k)]) := by
  refine ⟨fun x hx => ?_, fun i g hi hg hs => ?_, ?_, fun x hx i g hi hg hs => ?_⟩
  · rcases List.mem_append.1 hx with hx | hx
    · obtain ⟨g, h1, h2⟩ := h.one x hx; exact ⟨g, by omega, h2⟩
    · simp only [List.mem_singleton] at hx
      subst hx
      exact ⟨f, by show k < k + 1; omega, hf, hn, rfl⟩
  · by_cases e : i = k
    · subst e; rw [hf] at hg; cases hg; exact ⟨i, by simp⟩
    · obtain ⟨v, hv⟩ := h.all i g (by omega) hg hs
      exact ⟨v, List.mem_append_left _ hv⟩
  · rw [List.map_append, List.nodup_append]
    refine ⟨h.nd, by simp, fun a ha b hb => ?_⟩
    simp only [List.map_cons, List.map_nil, List.mem_singleton] at hb
    subst hb
    obtain ⟨x, hx, rfl⟩ := List.mem_map.1 ha
    exact hno x hx
  · rcases List.mem_append.1 hx with hx | hx
    · exact h.first x hx i g hi hg hs
    · simp only [List.mem_singleton] at hx
      subst hx
      obtain ⟨v, hv⟩ := h.all i g hi hg hs
      exact hno _ hv
end Go.Proofs.YtfgaohilpbocbaaGreatDoor
end
