/-
  Package packet's Join.
-/
import Derived.Test.YtfgaohilpbocbaaGreatDoorMm21
section
namespace Go.Proofs.YtfgaohilpbocbaaGreatDoor
open Go.ChangeShapes Go.WideShapes Go.ChangeAt Go.RowKit Go.Joins
set_option linter.unusedVariables false

/-- What a set's slices lie in is new. -/
def NewS (w : World) (fa sa : Option Addr) : Prop := (∀ q, fa = some q → w.heap.size ≤ q.block) ∧ ∀ q, sa = some q → w.heap.size ≤ q.block
def JoinPostN (F : List Pw) (name : List Nat) (w : World) (e : Ending) (w' : World) : Prop :=
  JoinPost F name w e w' ∧ ∀ S fa fc sa sc, e = .returned (.tuple #[.agg (rowArr 3 (setV S fa fc sa sc)), .int .i64 0]) → NewS w fa sa
theorem OwnF.newB {B : Nat} {w : World} {q : Addr} {n c : Nat} {F : List Fil} (h : OwnF B w (.slice (some q) n c) F) : B ≤ q.block := by
  rcases h.2 with ⟨h1, _⟩ | ⟨g, cap, cur, h1, h2, _⟩
  · injection h1 with h1; cases h1
  · injection h1 with h1
    cases h1
    exact h2
theorem OwnS.newB {B : Nat} {w : World} {q : Addr} {n c : Nat} {F : List Sm} (h : OwnS B w (.slice (some q) n c) F) : B ≤ q.block := by
  rcases h.2 with ⟨h1, _⟩ | ⟨g, cap, cur, h1, h2, _⟩
  · injection h1 with h1; cases h1
  · injection h1 with h1
    cases h1
    exact h2
theorem setRow_inj {S S' : St} {fa fa' : Option Addr} {fc fc' : Nat} {sa sa' : Option Addr} {sc sc' : Nat} (h : rowArr 3 (setV S fa fc sa sc) = rowArr 3 (setV S' fa' fc' sa' sc')) : fa = fa' ∧ sa = sa' := by
  have h1 : (rowArr 3 (setV S fa fc sa sc))[1]? = (rowArr 3 (setV S' fa' fc' sa' sc'))[1]? := by rw [h]
  have h2 : (rowArr 3 (setV S fa fc sa sc))[2]? = (rowArr 3 (setV S' fa' fc' sa' sc'))[2]? := by rw [h]
  simp [rowArr, List.range_succ, setV] at h1 h2
  exact ⟨h1.1, h2.1⟩
theorem ret_code {A B : Array Value} {c d : Int} (h : Ending.returned (.tuple #[.agg A, .int .i64 c]) = .returned (.tuple #[.agg B, .int .i64 d])) : A = B ∧ c = d := by
  injection h with h
  injection h with h
  have h1 := congrArg Array.toList h
  simp at h1
  exact h1
set_option maxRecDepth 1000000 in
set_option maxHeartbeats 32000000 in
theorem join14_new (pa : Option Addr) (pc : Nat) (F : List Pw) (name : List Nat) (w : World) (hs : PkSl w pa pc F) (h8 : name.length = 8) (hb8 : IsByte name) (hl : F.length ≤ 500) (hsm : ∀ f ∈ F, f.p.set = name → f.p.sums.length ≤ 600) (hm : Mx w) (ht : Tabs w) :
    Calls Tryz.prog 19 #[.slice pa F.length pc, .agg (rowArr 8 (vOf name))] w (JoinPostN F name w) := by
  have mixed : Tryz.prog.follows .mixedOrders = true := by kernel_rfl
  obtain ⟨PQ, hPQ⟩ : ∃ PQ, PQ = JoinPostN F name w := ⟨_, rfl⟩
  have HPQ := Lib.hid hPQ
  rw [← hPQ]
  obtain ⟨NA, hNA⟩ : ∃ NA, NA = rowArr 8 (vOf name) := ⟨_, rfl⟩
  have VN : Hid (rowArr 8 (vOf name) = NA) := hNA.symm
  have HNA := Lib.hid hNA
  rw [← hNA]
  have hb0 : Below w.heap.size w (w.alloc (.cells NA 64)) := (Below.refl _ _).alloc (Nat.le_refl _) _
  have hb1 : Below w.heap.size w ((w.alloc (.cells NA 64)).alloc (.cells zSetA 30)) := hb0.alloc hb0.size _
  have HB1 := Lib.hid hb1
  have hz0 : (w.alloc (.cells NA 64)).heap[w.heap.size]? = some (.cells NA 64 (0, 0)) := heap_alloc_last w _
  have hs1 : (w.alloc (.cells NA 64)).heap.size = w.heap.size + 1 := by simp
  have HZ1 : Hid (((w.alloc (.cells NA 64)).alloc (.cells zSetA 30)).heap[w.heap.size]? = some (.cells NA 64 (0, 0))) := by
    have h2 : Below (w.alloc (.cells NA 64)).heap.size (w.alloc (.cells NA 64)) ((w.alloc (.cells NA 64)).alloc (.cells zSetA 30)) := (Below.refl _ _).alloc (Nat.le_refl _) _
    exact (h2.block _ (Array.getElem?_eq_some_iff.1 hz0).1).trans hz0
  have HR1 : Hid (((w.alloc (.cells NA 64)).alloc (.cells zSetA 30)).heap[w.heap.size + 1]? = some (.cells zSetA 30 (0, 0))) := by
    show _ = _
    rw [← hs1]; exact heap_alloc_last _ _
  have HS := Lib.hid hs
  have HSM := Lib.hid hsm
  have H8 := Lib.hid h8
  have HB8 := Lib.hid hb8
  have HM := Lib.hid hm
  have HT := Lib.hid ht
  have HFI := Lib.hid (firsts_any pa pc F name _ (hs.below hb1) h8 hb8)
  rw [← hNA] at HFI
  clear hs hsm h8 hb8 hm ht hPQ hNA hb0 hb1 hz0 hs1
  go_enter Tryz.func19, Tryz.ntmps19
  go_upto_region 1 with fail
  change Code.wp _ _ _ _ ((w.alloc (.cells NA 64)).alloc (.cells zSetA 30))
  obtain ⟨B, hB⟩ : ∃ B, B = w.heap.size := ⟨_, rfl⟩
  have hwB : w.heap.size ≤ B := by omega
  rw [← hB] at HZ1 HR1
  rw [← hB]
  generalize (w.alloc (.cells NA 64)).alloc (.cells zSetA 30) = w1 at *
  clear hB
  have HCN : Hid (∀ j, j < 8 → w1.cell? ⟨B, 0 + j, none⟩ = some (vOf name j)) := fun j hj => by
    rw [cell_of_block HZ1.out, Nat.zero_add, HNA.out]
    simp [rowArr, hj]
  go_upto_region 2 with (first
    | (refine wpList_load_v (by rfl) 64 _ rfl B 0 8 _ NA VN.out rfl _ HCN.out Tryz.underlying64 rfl (by kernel_rfl) ?_)
    | (go_at_call 46; (with_reducible refine HFI.out.mono ?_); rintro e w3 ⟨mb, M, rfl, hm3, hf3, hmb, hb3⟩; have HMP := Lib.hid hm3; have HF := Lib.hid hf3; have HB3 := Lib.hid hb3; clear hm3 hf3 hb3 hmb))
  have HZ3 : Hid (w3.heap[B]? = some (.cells NA 64 (0, 0))) := (HB3.out.block B (Array.getElem?_eq_some_iff.1 HZ1.out).1).trans HZ1.out
  have HR3 : Hid (w3.heap[B + 1]? = some (.cells zSetA 30 (0, 0))) := (HB3.out.block (B + 1) (Array.getElem?_eq_some_iff.1 HR1.out).1).trans HR1.out
  have HBW3 : Hid (Below w.heap.size w w3) := HB1.out.trans (HB3.out.mono HB1.out.size)
  have HS3 := Lib.hid (HS.out.below HBW3.out)
  have HM3 := Lib.hid (HM.out.below HBW3.out)
  have HT3 := Lib.hid (HT.out.below HBW3.out)
  have hRl : B + 1 < w3.heap.size := (Array.getElem?_eq_some_iff.1 HR3.out).1
  clear HCN HFI HB1 HB3 HZ1 HR1 HS HM HT
  have hlm := HS3.out.lt
  have k10 : keyR (1, 0) := ⟨i64R_small 1 (by decide), i64R_small 0 (by decide)⟩
  have HL7 : Hid (∀ w', Lacks F M → Below w.heap.size w w' → PQ (.returned (.tuple #[.agg zSetA, .int .i64 7])) w') := by
    show ∀ _, _
    rw [HPQ.out]
    exact fun w' h hb => ⟨⟨hb, M, HF.out, .inl ⟨rfl, h⟩⟩, fun S fa fc sa sc e => absurd (ret_code e).2 (by decide)⟩
  rcases HMP.out.look k10 with ⟨m0, hm0, hlk⟩ | ⟨hno, hlk⟩
  case' inr =>
    have HLK := Lib.hid hlk
    have HNO := Lib.hid hno
    clear hlk hno k10
    go_upto_region 4 with (refine wpList_look rfl 117 _ _ true rfl (.map (some mb)) (.agg #[.int .i64 1, .int .i64 0]) _ rfl rfl HLK.out ?_)
    go_wp2_with (refine wpList_store_arr rfl 30 _ _ rfl (B + 1) zSetA rfl rfl 30 _ HR3.out (by kernel_rfl) rfl (by kernel_rfl) ?_; intro w9 HC9 hf9; have HB9 : Hid (Below w.heap.size w w9) := HBW3.out.trans (hf9.out.below HBW3.out.size (fun k hk e => by omega)); clear hf9)
    exact bodyPost_ret (v := .tuple #[.agg zSetA, .int .i64 7]) (results_cell_one rfl _ _ (B + 1) 30 zSetA (0, 0) _ rfl HC9.out Tryz.underlying30 rfl (by kernel_rfl) (.int .i64 7) rfl) rfl (HL7.out _ (.inl HNO.out) HB9.out)
  have HLK := Lib.hid hlk
  have HM0 := Lib.hid hm0
  obtain ⟨f0, hlt0, hf0, hset0, _⟩ := HF.out.one _ hm0
  simp only at hlt0 hf0
  have hf0m : f0 ∈ F := List.mem_of_getElem? hf0
  obtain ⟨pb, off, rfl, hbl, hx0⟩ := pks_one HS3.out hlt0
  have e0 : F[m0] = f0 := (List.getElem?_eq_some_iff.1 hf0).2
  rw [e0] at hx0
  have hp0 := (HS3.out.pks f0 hf0m).okk
  have HP0 := Lib.hid hp0
  have HX0 := Lib.hid hx0
  have c9 : w3.cell? ⟨pb, off + m0 * 51 + 9, none⟩ = some (.int .i64 f0.p.slice) := hx0 9 (by omega)
  have c10 : w3.cell? ⟨pb, off + m0 * 51 + 10, none⟩ = some (.int .i64 f0.p.files) := hx0 10 (by omega)
  have HF0 := Lib.hid hf0
  have hm063 : m0 ≤ 9223372036854775807 := by omega
  obtain ⟨n1, n2⟩ := hp0.files
  clear hlk hm0 hf0 hx0 e0 hf0m hset0 hp0 k10
  go_upto_region 6 with (refine wpList_look rfl 117 _ _ true rfl (.map (some mb)) (.agg #[.int .i64 1, .int .i64 0]) _ rfl rfl HLK.out ?_)
  have HJ0 := Lib.hid (JoinSt.first w3 f0.p.slice)
  have c10b : (w3.alloc (.cells #[.int .i64 f0.p.slice, .slice none 0 0, .slice none 0 0] 30)).cell? ⟨pb, off + m0 * 51 + 10, none⟩ = some (.int .i64 f0.p.files) := (HJ0.out.below.cell (p := ⟨pb, off + m0 * 51 + 10, none⟩) hbl).trans c10
  generalize w3.alloc (.cells #[.int .i64 f0.p.slice, .slice none 0 0, .slice none 0 0] 30) = w5 at *
  clear c9 c10
  have HG0 : Hid (Got F M f0.p.slice 0 ⟨f0.p.slice, [], []⟩) := .zero
  go_wp2_with fail
  clear c10b
  go_loopw [40] (fun i wr => ∃ (k : Nat) (S : St) (fv sv : Value), (k : Int) ≤ max 0 f0.p.files ∧ i = .int .i64 k ∧ Hid (Got F M f0.p.slice k S) ∧ Hid (JoinSt w3 wr S fv sv)) (fun i _ => (f0.p.files - intOf i).toNat)
  case atStart => exact ⟨0, _, _, _, by omega, rfl, HG0, HJ0⟩
  case round =>
    obtain ⟨k, S, fv, sv, hk, rfl, HG, HJ⟩ := hrel
    clear HG0 HJ0
    have hgi := HG.out.okIn HF.out (fun f hf => (HS3.out.pks f hf).okk) HSM.out
    have hk100 : k ≤ 500 := by have := hgi.few; omega
    have HBWr : Hid (Below w.heap.size w wr) := HBW3.out.trans (HJ.out.below.mono HBW3.out.size)
    have HRr : Hid (wr.heap[B + 1]? = some (.cells zSetA 30 (0, 0))) := (HJ.out.below.block _ hRl).trans HR3.out
    by_cases hlt : (k : Int) < f0.p.files
    · have d : decide ((k : Int) < f0.p.files) = true := decide_eq_true hlt
      have k2 : keyR (2, (k : Int)) := ⟨i64R_small 2 (by decide), by unfold i64R; simp only; omega⟩
      have k3 : keyR (3, (k : Int)) := ⟨i64R_small 3 (by decide), by unfold i64R; simp only; omega⟩
      have HMPr : Hid (MpAt wr mb M) := HMP.out.fr (X := fun _ => False) (Fr.of_below HJ.out.below) (fun e => e)
      have hll := HMPr.out.lt
      rcases HMPr.out.look k2 with ⟨a, ha, hla⟩ | ⟨hna, hla⟩ <;> rcases HMPr.out.look k3 with ⟨c, hc, hlc⟩ | ⟨hnc, hlc⟩
      · have HLA := Lib.hid hla
        have HLC := Lib.hid hlc
        obtain ⟨f, hlta, hfa, hseta, hparta⟩ := HF.out.one _ ha
        obtain ⟨g, hltc, hfc, hsetc, hpartc⟩ := HF.out.one _ hc
        simp only at hlta hfa hltc hfc
        obtain ⟨_, _, ea, _, hxa⟩ := pks_one HS3.out hlta
        cases ea
        obtain ⟨_, _, ec, _, hxc⟩ := pks_one HS3.out hltc
        cases ec
        have eA : F[a] = f := (List.getElem?_eq_some_iff.1 hfa).2
        have eC : F[c] = g := (List.getElem?_eq_some_iff.1 hfc).2
        rw [eA] at hxa
        rw [eC] at hxc
        have mg : g ∈ F := List.mem_of_getElem? hfc
        have HPG := Lib.hid (HS3.out.pks g mg)
        have hgs := HSM.out g mg hsetc
        have HGN : Hid (Got F M f0.p.slice (k + 1) ⟨f0.p.slice, S.files ++ [f.p.file], S.slices ++ g.p.sums⟩) := .next HG.out ha hc hfa hfc
        have HXA := Lib.hid hxa
        have HXC := Lib.hid hxc
        have hfl : S.files.length = k := hgi.files
        have hslm : S.slices.length ≤ 600 * k := hgi.most
        have hsls : S.slice = f0.p.slice := hgi.slice
        have HSLS := Lib.hid hsls
        have hb1 : S.files.length ≤ 1000000 := by omega
        have hb2 : S.slices.length ≤ 1000000 := by omega
        have HBN := Lib.hid (And.intro hb1 hb2)
        clear hla hlc k2 k3 hgi ha hc hfa hfc hxa hxc eA eC mg hseta hparta hsetc hpartc hfl hslm hsls hb1 hb2
        obtain ⟨wd, hwd⟩ : ∃ wd, wd = wr.drew := ⟨_, rfl⟩
        have HJD : Hid (JoinSt w3 wd S fv sv) := by rw [hwd]; exact HJ.out.later (Below.refl _ _).drew
        have hsz : w3.heap.size ≤ wd.heap.size := HJD.out.below.size
        have hsb : w3.heap.size < wd.heap.size := HJD.out.box.lt
        have hno1 : ∀ b, b ≤ w3.heap.size → ¬ fv.ownBlock = some b := fun b hb e => by have := (HJD.out.fo.at e).1; omega
        have k65 : ∀ u : KeepW wd (fun j => fv.ownBlock = some j), u.v.cell? ⟨w3.heap.size, 1, none⟩ = some fv := fun u => (u.cell hsb (hno1 _ (Nat.le_refl _))).trans (HJD.out.box.cell 1 (by omega))
        have KX : Hid (∀ u : KeepW wd (fun j => fv.ownBlock = some j), ∀ j, j < 35 → u.v.cell? ⟨pb, off + a * 51 + 13 + j, none⟩ = some (filV f.p.file j)) := fun u j hj =>
          (u.cell (Nat.lt_of_lt_of_le hbl hsz) (hno1 _ (Nat.le_of_lt hbl))).trans (by
            have h1 := (HJD.out.below.cell (p := ⟨pb, off + a * 51 + (13 + j), none⟩) hbl).trans (HXA.out (13 + j) (by omega))
            rw [show off + a * 51 + 13 + j = off + a * 51 + (13 + j) by omega, h1]
            unfold pwV
            rw [pkV_fil _ _ _ _ _ (by omega) (by omega), show 13 + j - 13 = j by omega])
        obtain ⟨SX, hSX⟩ : ∃ SX, SX = rowArr 35 (filV f.p.file) := ⟨_, rfl⟩
        have VX : Hid (rowArr 35 (filV f.p.file) = SX) := hSX.symm
        have HSX := Lib.hid hSX
        have hltaI : a ≤ 9223372036854775807 := by omega
        have hltcI : c ≤ 9223372036854775807 := by omega
        clear hSX hno1
        go_upto_region 13 with (first
          | (refine wpList_look rfl 117 _ _ true rfl (.map (some mb)) (.agg #[.int .i64 2, .int .i64 (k : Int)]) _ rfl rfl HLA.out ?_)
          | (refine wpList_look rfl 117 _ _ true rfl (.map (some mb)) (.agg #[.int .i64 3, .int .i64 (k : Int)]) _ rfl rfl HLC.out ?_))
        refine growK_begin 10 (fun w' => ∃ u : KeepW wd (fun j => fv.ownBlock = some j), w' = u.v) (by kernel_rfl) ?_
        rw [← hwd]
        clear hwd
        refine growK_take (by kernel_rfl) [0, 1, 2, 3, 4, 5, 6] 4 _ _ (by kernel_rfl) _ (keep_class (Fr.refl _ _)) ?_
        simp only [opsAt, List.getElem?_toArray, List.getElem?_cons_succ, List.getElem?_cons_zero]
        repeat (first
          | (refine wpQuiet_load_v (by rfl) 98 _ rfl pb (off + a * 51 + 13) 35 _ SX VX.out rfl _ (fun w hw j hj => by obtain ⟨u, rfl⟩ := hw; exact KX.out u j hj) und_file rfl (by kernel_rfl) ?_)
          | go_big_quiet_step (fail) | quiet_step (fail))
        refine wpQuiet_nil ?_
        clear k65 KX
        refine growK_one 7 (by kernel_rfl) (fun K hK => ?_)
        simp only [stepOf, List.getElem?_toArray, List.getElem?_cons_succ, List.getElem?_cons_zero]
        rw [if_pos (by rfl)]
        refine op_oneF _ rfl f.p.file (congrArg Value.agg HSX.out) ?_
        have HB10 : Hid (Below wd.heap.size wd (wd.alloc (.cells (rowArr 35 (filV f.p.file)) 98))) := (Below.refl _ _).alloc (Nat.le_refl _) _
        have HC10 : Hid ((wd.alloc (.cells (rowArr 35 (filV f.p.file)) 98)).heap[wd.heap.size]? = some (.cells (rowArr 35 (filV f.p.file)) 98 (0, 0))) := heap_alloc_last wd _
        generalize wd.alloc (.cells (rowArr 35 (filV f.p.file)) 98) = w10 at *
        refine hK.out _ _ (keep_class (Fr.of_below HB10.out)) ?_
        clear hK K
        have HJ10 := Lib.hid (HJD.out.later HB10.out)
        have hsz10 : w3.heap.size + 1 ≤ w10.heap.size := HJ10.out.box.lt
        refine growK_one 8 (by kernel_rfl) (fun K hK => ?_)
        simp only [stepOf, List.getElem?_toArray, List.getElem?_cons_succ, List.getElem?_cons_zero]
        rw [if_pos (by rfl)]
        refine op_push_f _ (.tmp 65) (.tmp 71) rfl (w3.heap.size + 1) fv S.files rfl HJ10.out.fo wd.heap.size rfl f.p.file HC10.out hsz10 HBN.out.1 ?_
        intro v11 w11 o11 g11 e11
        obtain ⟨qa, qc, hv11, _, _⟩ := o11.out.slice
        obtain ⟨ql, hql⟩ : ∃ ql, ql = (S.files ++ [f.p.file]).length := ⟨_, rfl⟩
        rw [← hql] at hv11
        subst hv11
        clear hql
        have hF11 : Fr (fun j => fv.ownBlock = some j) w10 w11 := Fr.of_grown g11.out fun b e => e
        obtain ⟨hr11, hj11⟩ := HJ10.out.file o11.out hF11
        have F11 : Hid (Fr (fun j => fv.ownBlock = some j) wd w11) := (Fr.of_below HB10.out).trans hF11
        have HJ11 := Lib.hid hj11
        refine hK.out _ _ (keep_class F11.out) ?_
        clear hK K o11 g11 e11 HC10 hF11 hj11 HJ10
        have q11 := hr11.cell 1 (by omega)
        have l11 := hr11.loose 1
        refine growK_take (by kernel_rfl) [9] 1 _ _ (by kernel_rfl) _ (keep_class F11.out) ?_
        simp only [opsAt, List.getElem?_toArray, List.getElem?_cons_succ, List.getElem?_cons_zero]
        repeat (first | go_big_quiet_step (fail) | quiet_step (fail))
        refine wpQuiet_nil ?_
        refine growK_last (by kernel_rfl) (by kernel_rfl) (fun K hK => ?_)
        simp only [stepOf, List.getElem?_toArray, List.getElem?_cons_succ, List.getElem?_cons_zero]
        go_simp
        refine hK.out _ _ ?_
        clear hK K F11 q11 l11 hr11
        obtain ⟨fv2, hfv2⟩ : ∃ fv2, fv2 = Value.slice qa ql qc := ⟨_, rfl⟩
        rw [← hfv2] at HJ11
        rw [← hfv2]
        clear hfv2
        generalize w11.setCell ⟨w3.heap.size, 1, none⟩ fv2 = w12 at *
        clear HJD HB10 hsz10 hsz hsb VX HSX HJ HRr HMPr HBWr HLA HLC hll
        go_upto_region 14 with fail
        obtain ⟨wd2, hwd2⟩ : ∃ wd2, wd2 = w12.drew := ⟨_, rfl⟩
        have HJD : Hid (JoinSt w3 wd2 ⟨S.slice, S.files ++ [f.p.file], S.slices⟩ fv2 sv) := by rw [hwd2]; exact HJ11.out.later (Below.refl _ _).drew
        have hsz : w3.heap.size ≤ wd2.heap.size := HJD.out.below.size
        have hsb : w3.heap.size < wd2.heap.size := HJD.out.box.lt
        have hno1 : ∀ b, b ≤ w3.heap.size → ¬ sv.ownBlock = some b := fun b hb e => by have := (HJD.out.so.at e).1; omega
        have k75 : ∀ u : KeepW wd2 (fun j => sv.ownBlock = some j), u.v.cell? ⟨w3.heap.size, 2, none⟩ = some sv := fun u => (u.cell hsb (hno1 _ (Nat.le_refl _))).trans (HJD.out.box.cell 2 (by omega))
        have k80 : ∀ u : KeepW wd2 (fun j => sv.ownBlock = some j), u.v.cell? ⟨pb, off + c * 51 + 48, none⟩ = some (.slice g.sa g.p.sums.length g.sc) := fun u =>
          (u.cell (Nat.lt_of_lt_of_le hbl hsz) (hno1 _ (Nat.le_of_lt hbl))).trans ((HJD.out.below.cell (p := ⟨pb, off + c * 51 + 48, none⟩) hbl).trans (HXC.out 48 (by omega)))
        have HSG := Lib.hid (HPG.out.sums.below HJD.out.below)
        clear hno1 HJ11
        refine growK_begin 9 (fun w' => ∃ u : KeepW wd2 (fun j => sv.ownBlock = some j), w' = u.v) (by kernel_rfl) ?_
        rw [← hwd2]
        clear hwd2
        refine growK_take (by kernel_rfl) [0, 1, 2, 3, 4, 5, 6] 3 _ _ (by kernel_rfl) _ (keep_class (Fr.refl _ _)) ?_
        simp only [opsAt, List.getElem?_toArray, List.getElem?_cons_succ, List.getElem?_cons_zero]
        repeat (first | go_big_quiet_step (fail) | quiet_step (fail))
        refine wpQuiet_nil ?_
        clear k75 k80
        refine growK_one 7 (by kernel_rfl) (fun K hK => ?_)
        simp only [stepOf, List.getElem?_toArray, List.getElem?_cons_succ, List.getElem?_cons_zero]
        rw [if_pos (by rfl)]
        refine op_push_s _ (.tmp 75) (.tmp 80) rfl (w3.heap.size + 1) sv S.slices rfl HJD.out.so g.sa g.sc g.p.sums rfl HSG.out hsb HBN.out.2 (by omega) ?_
        intro v14 w14 o14 f14 e14
        obtain ⟨ra, rc, hv14, _, _⟩ := o14.out.slice
        obtain ⟨rl, hrl⟩ : ∃ rl, rl = (S.slices ++ g.p.sums).length := ⟨_, rfl⟩
        rw [← hrl] at hv14
        subst hv14
        clear hrl
        obtain ⟨hr14, hj14⟩ := HJD.out.sums o14.out f14.out
        have HJ14 := Lib.hid hj14
        have F14 := f14
        refine hK.out _ _ (keep_class F14.out) ?_
        clear hK K o14 e14 f14 hj14 HJD
        have q14 := hr14.cell 2 (by omega)
        have l14 := hr14.loose 2
        refine growK_take (by kernel_rfl) [8] 1 _ _ (by kernel_rfl) _ (keep_class F14.out) ?_
        simp only [opsAt, List.getElem?_toArray, List.getElem?_cons_succ, List.getElem?_cons_zero]
        repeat (first | go_big_quiet_step (fail) | quiet_step (fail))
        refine wpQuiet_nil ?_
        refine growK_last (by kernel_rfl) (by kernel_rfl) (fun K hK => ?_)
        simp only [stepOf, List.getElem?_toArray, List.getElem?_cons_succ, List.getElem?_cons_zero]
        go_simp
        refine hK.out _ _ ?_
        clear hK K F14 q14 l14 hr14
        obtain ⟨sv2, hsv2⟩ : ∃ sv2, sv2 = Value.slice ra rl rc := ⟨_, rfl⟩
        rw [← hsv2] at HJ14
        rw [← hsv2]
        clear hsv2
        generalize w14.setCell ⟨w3.heap.size, 2, none⟩ sv2 = w15 at *
        rw [HSLS.out] at HJ14
        go_wp2_with fail
        go_roundw
        case rel => exact ⟨k + 1, _, fv2, sv2, by omega, by go_num, HGN, HJ14⟩
        case measure => simp [intOf]; omega
      · have HLA := Lib.hid hla
        have HLC := Lib.hid hlc
        have HNO : Hid (Lacks F M) := .inr ⟨m0, f0, k, HM0.out, HF0.out, hlt, .inr hnc⟩
        clear hla hlc k2 k3 hgi hll
        go_upto_region 12 with (first
          | (refine wpList_look rfl 117 _ _ true rfl (.map (some mb)) (.agg #[.int .i64 2, .int .i64 (k : Int)]) _ rfl rfl HLA.out ?_)
          | (refine wpList_look rfl 117 _ _ true rfl (.map (some mb)) (.agg #[.int .i64 3, .int .i64 (k : Int)]) _ rfl rfl HLC.out ?_))
        go_wp2_with (refine wpList_store_arr rfl 30 _ _ rfl (B + 1) zSetA rfl rfl 30 _ HRr.out (by kernel_rfl) rfl (by kernel_rfl) ?_; intro w9 HC9 hf9; have HB9 : Hid (Below w.heap.size w w9) := HBWr.out.trans (hf9.out.below HBWr.out.size (fun k hk e => by omega)); clear hf9)
        exact bodyPost_ret (v := .tuple #[.agg zSetA, .int .i64 7]) (results_cell_one rfl _ _ (B + 1) 30 zSetA (0, 0) _ rfl HC9.out Tryz.underlying30 rfl (by kernel_rfl) (.int .i64 7) rfl) rfl (HL7.out _ HNO.out HB9.out)
      · have HLA := Lib.hid hla
        have HLC := Lib.hid hlc
        have HNO : Hid (Lacks F M) := .inr ⟨m0, f0, k, HM0.out, HF0.out, hlt, .inl hna⟩
        clear hla hlc k2 k3 hgi hll
        go_upto_region 12 with (first
          | (refine wpList_look rfl 117 _ _ true rfl (.map (some mb)) (.agg #[.int .i64 2, .int .i64 (k : Int)]) _ rfl rfl HLA.out ?_)
          | (refine wpList_look rfl 117 _ _ true rfl (.map (some mb)) (.agg #[.int .i64 3, .int .i64 (k : Int)]) _ rfl rfl HLC.out ?_))
        go_wp2_with (refine wpList_store_arr rfl 30 _ _ rfl (B + 1) zSetA rfl rfl 30 _ HRr.out (by kernel_rfl) rfl (by kernel_rfl) ?_; intro w9 HC9 hf9; have HB9 : Hid (Below w.heap.size w w9) := HBWr.out.trans (hf9.out.below HBWr.out.size (fun k hk e => by omega)); clear hf9)
        exact bodyPost_ret (v := .tuple #[.agg zSetA, .int .i64 7]) (results_cell_one rfl _ _ (B + 1) 30 zSetA (0, 0) _ rfl HC9.out Tryz.underlying30 rfl (by kernel_rfl) (.int .i64 7) rfl) rfl (HL7.out _ HNO.out HB9.out)
      · have HLA := Lib.hid hla
        have HLC := Lib.hid hlc
        have HNO : Hid (Lacks F M) := .inr ⟨m0, f0, k, HM0.out, HF0.out, hlt, .inl hna⟩
        clear hla hlc k2 k3 hgi hll
        go_upto_region 12 with (first
          | (refine wpList_look rfl 117 _ _ true rfl (.map (some mb)) (.agg #[.int .i64 2, .int .i64 (k : Int)]) _ rfl rfl HLA.out ?_)
          | (refine wpList_look rfl 117 _ _ true rfl (.map (some mb)) (.agg #[.int .i64 3, .int .i64 (k : Int)]) _ rfl rfl HLC.out ?_))
        go_wp2_with (refine wpList_store_arr rfl 30 _ _ rfl (B + 1) zSetA rfl rfl 30 _ HRr.out (by kernel_rfl) rfl (by kernel_rfl) ?_; intro w9 HC9 hf9; have HB9 : Hid (Below w.heap.size w w9) := HBWr.out.trans (hf9.out.below HBWr.out.size (fun k hk e => by omega)); clear hf9)
        exact bodyPost_ret (v := .tuple #[.agg zSetA, .int .i64 7]) (results_cell_one rfl _ _ (B + 1) 30 zSetA (0, 0) _ rfl HC9.out Tryz.underlying30 rfl (by kernel_rfl) (.int .i64 7) rfl) rfl (HL7.out _ HNO.out HB9.out)
    · have hkn : k = f0.p.files.toNat := by omega
      have HGE : Hid (Got F M f0.p.slice f0.p.files.toNat S) := hkn ▸ HG.out
      have d : decide ((k : Int) < f0.p.files) = false := decide_eq_false hlt
      have HL2 : Hid (∀ w', ¬ (f0.p.slices = (S.slices.length : Int) ∧ FormedP S ∧ nameS S = name) → Below w.heap.size w w' → PQ (.returned (.tuple #[.agg zSetA, .int .i64 2])) w') := by
        show ∀ _, _
        rw [HPQ.out]
        exact fun w' h hb => ⟨⟨hb, M, HF.out, .inr ⟨m0, f0, S, HM0.out, HF0.out, HGE.out, .inl ⟨rfl, h⟩⟩⟩, fun S fa fc sa sc e => absurd (ret_code e).2 (by decide)⟩
      obtain ⟨fa, fc, hfv, _, _⟩ := HJ.out.fo.slice
      obtain ⟨sa, sc, hsv, _, _⟩ := HJ.out.so.slice
      subst hfv
      subst hsv
      have hsn : sa = none → sc = 0 := fun e => by subst e; exact HJ.out.so.none
      have r11 : wr.cell? ⟨pb, off + m0 * 51 + 11, none⟩ = some (.int .i64 f0.p.slices) := (HJ.out.below.cell (p := ⟨pb, off + m0 * 51 + 11, none⟩) hbl).trans (HX0.out 11 (by omega))
      have b2 : wr.cell? ⟨w3.heap.size, 2, none⟩ = some (.slice sa S.slices.length sc) := HJ.out.box.cell 2 (by omega)
      have k11 := cell_regrown r11
      have kb2 := cell_regrown b2
      have hslb : S.slices.length ≤ 300000 := by have := hgi.most; omega
      obtain ⟨s1, s2⟩ := HP0.out.slices
      have HGI := Lib.hid hgi
      clear r11 b2 hkn hgi
      by_cases q : f0.p.slices = (S.slices.length : Int)
      case' neg =>
        have e1 : (f0.p.slices == (S.slices.length : Int)) = false := beq_false_of_ne q
        have HN := Lib.hid q
        clear q
        go_upto_region 16 with fail
        refine wp_region_quiet_below mixed (by kernel_rfl) ?_
        repeat (first | go_big_quiet_step (fail) | quiet_step (fail))
        refine wpQuiet_nil ?_
        intro _ hw'
        obtain ⟨⟨dq, osq⟩, hw''⟩ := hw'
        subst hw''
        have HJ6 := Lib.hid (HJ.out.later (below_regrown wr dq osq))
        clear k11 kb2
        generalize Go.Sort.grow (redrawn wr dq) osq = w6 at *
        have HBW6 : Hid (Below w.heap.size w w6) := HBW3.out.trans (HJ6.out.below.mono HBW3.out.size)
        have HR6 : Hid (w6.heap[B + 1]? = some (.cells zSetA 30 (0, 0))) := (HJ6.out.below.block _ hRl).trans HR3.out
        go_wp2_with (refine wpList_store_arr rfl 30 _ _ rfl (B + 1) zSetA rfl rfl 30 _ HR6.out (by kernel_rfl) rfl (by kernel_rfl) ?_; intro w9 HC9 hf9; have HB9 : Hid (Below w.heap.size w w9) := HBW6.out.trans (hf9.out.below HBW6.out.size (fun k hk e => by omega)); clear hf9)
        exact bodyPost_ret (v := .tuple #[.agg zSetA, .int .i64 2]) (results_cell_one rfl _ _ (B + 1) 30 zSetA (0, 0) _ rfl HC9.out Tryz.underlying30 rfl (by kernel_rfl) (.int .i64 2) rfl) rfl (HL2.out _ (fun h => HN.out h.1) HB9.out)
      have e1 : (f0.p.slices == (S.slices.length : Int)) = true := beq_iff_eq.2 q
      have HQE := Lib.hid q
      clear q
      go_upto_region 16 with fail
      refine wp_region_quiet_below mixed (by kernel_rfl) ?_
      repeat (first | go_big_quiet_step (fail) | quiet_step (fail))
      refine wpQuiet_nil ?_
      intro _ hw'
      obtain ⟨⟨dq, osq⟩, hw''⟩ := hw'
      subst hw''
      have HJ6 := Lib.hid (HJ.out.later (below_regrown wr dq osq))
      clear k11 kb2
      generalize Go.Sort.grow (redrawn wr dq) osq = w6 at *
      have HBW6 : Hid (Below w.heap.size w w6) := HBW3.out.trans (HJ6.out.below.mono HBW3.out.size)
      have HR6 : Hid (w6.heap[B + 1]? = some (.cells zSetA 30 (0, 0))) := (HJ6.out.below.block _ hRl).trans HR3.out
      have hsr : i64R S.slice := by rw [HGI.out.slice]; exact HP0.out.slice
      have HSA : Hid (∀ w', JoinSt w3 w' S (.slice fa S.files.length fc) (.slice sa S.slices.length sc) → SetAt w' S fa fc sa sc) := fun w' h => ⟨hsr, h.fo.fils HGI.out.fok, h.so.sms HGI.out.sok⟩
      obtain ⟨SV, hSV⟩ : ∃ SV, SV = rowArr 3 (setV S fa fc sa sc) := ⟨_, rfl⟩
      have VS : Hid (rowArr 3 (setV S fa fc sa sc) = SV) := hSV.symm
      have HSs : Hid (SV.size = 3) := by show _ = _; rw [hSV, rowArr_size]
      have HS1 : Hid (SV.all (·.oneCell') = true) := by show _ = _; rw [hSV]; kernel_rfl
      have HCS : Hid (∀ w', JoinSt w3 w' S (.slice fa S.files.length fc) (.slice sa S.slices.length sc) → ∀ j, j < 3 → w'.cell? ⟨w3.heap.size, 0 + j, none⟩ = some (setV S fa fc sa sc j)) := fun w' h j hj => by
        rw [Nat.zero_add, h.box.cell j hj]
        unfold sv3 setV
        rfl
      have HC6 := Lib.hid (HCS.out w6 HJ6.out)
      have hnm := name14_any S fa fc sa sc w6 (HSA.out w6 HJ6.out) (HM3.out.below HJ6.out.below) (HT3.out.below HJ6.out.below) hsn
      rw [← hSV] at hnm
      have HNMC := Lib.hid hnm
      have HSN := Lib.hid hsn
      clear hnm hSV hsr hsn HJ HBWr HRr
      by_cases hfm : FormedP S
      case' neg =>
        have HNF := Lib.hid hfm
        clear hfm
        obtain ⟨QA, hQA⟩ : ∃ QA, QA = z8A := ⟨_, rfl⟩
        have HQs : Hid (QA.size = 8) := by show _ = _; rw [hQA]; rfl
        have HQ1 : Hid (QA.all (·.oneCell') = true) := by show _ = _; rw [hQA]; kernel_rfl
        have HQE2 : Hid (z8A = QA) := hQA.symm
        clear hQA
        go_upto_region 20 with (first
          | (refine wpList_load_v (by rfl) 30 _ rfl w3.heap.size 0 3 _ SV VS.out rfl _ HC6.out Tryz.underlying30 rfl (by kernel_rfl) ?_)
          | (go_at_call 33; (with_reducible refine HNMC.out.mono ?_); rintro e w7 ⟨⟨hn1, hn2⟩, b7⟩; have he7 := (HQE2.out ▸ hn2 HNF.out); clear hn1 hn2; subst he7; have HB7 := Lib.hid b7; clear b7 HNMC; have HALL : Hid (∀ c : Array Value, (w7.alloc (.cells c 64)).heap[w7.heap.size]? = some (.cells c 64 (0, 0))) := (fun c => heap_alloc_last w7 _); have HALB : Hid (∀ c : Array Value, Below w7.heap.size w7 (w7.alloc (.cells c 64))) := (fun c => (Below.refl _ _).alloc (Nat.le_refl _) _))
          | (refine wpList_store_arr rfl 64 _ _ rfl w7.heap.size QA rfl rfl 64 _ (HALL.out _) (by rw [HQs.out]; kernel_rfl) (by rw [HQs.out]; rfl) HQ1.out ?_; intro w8 HC8 hf8; have HB78 : Hid (Below w7.heap.size w7 w8) := (HALB.out _).trans (hf8.out.below (HALB.out _).size (fun k hk e => by omega)); clear hf8 HALL HALB))
        have HB68 : Hid (Below w6.heap.size w6 w8) := HB7.out.trans (HB78.out.mono HB7.out.size)
        have HJ8 := Lib.hid (HJ6.out.later HB68.out)
        have HBW8 : Hid (Below w.heap.size w w8) := HBW6.out.trans (HB68.out.mono HBW6.out.size)
        have HR8 : Hid (w8.heap[B + 1]? = some (.cells zSetA 30 (0, 0))) := (HJ8.out.below.block _ hRl).trans HR3.out
        go_wp2_with (refine wpList_store_arr rfl 30 _ _ rfl (B + 1) zSetA rfl rfl 30 _ HR8.out (by kernel_rfl) rfl (by kernel_rfl) ?_; intro w9 HC9 hf9; have HB9 : Hid (Below w.heap.size w w9) := HBW8.out.trans (hf9.out.below HBW8.out.size (fun k hk e => by omega)); clear hf9)
        exact bodyPost_ret (v := .tuple #[.agg zSetA, .int .i64 2]) (results_cell_one rfl _ _ (B + 1) 30 zSetA (0, 0) _ rfl HC9.out Tryz.underlying30 rfl (by kernel_rfl) (.int .i64 2) rfl) rfl (HL2.out _ (fun h => HNF.out h.2.1) HB9.out)
      have HFM := Lib.hid hfm
      clear hfm
      obtain ⟨QA, hQA⟩ : ∃ QA, QA = rowArr 8 (vOf (nameS S)) := ⟨_, rfl⟩
      have HQs : Hid (QA.size = 8) := by show _ = _; rw [hQA, rowArr_size]
      have HQ1 : Hid (QA.all (·.oneCell') = true) := by show _ = _; rw [hQA]; exact oneCell_v _ 8
      have VQ : Hid (rowArr 8 (vOf (nameS S)) = QA) := hQA.symm
      have nb : IsByte (nameS S) := nameOf_byte _
      have nl : (nameS S).length = 8 := nameOf_len _
      have nn : ∀ w, (binOp .neq 64 (.agg QA) (.agg NA)).run Tryz.prog w = .ok (.bool (!decide (nameS S = name))) w := fun w => by
        rw [run_neq_struct, hQA, HNA.out, eq_arr Tryz.underlying64 nb HB8.out nl H8.out 9998 w]
        rfl
      clear hQA nb nl
      go_upto_region 19 with (first
          | (refine wpList_load_v (by rfl) 30 _ rfl w3.heap.size 0 3 _ SV VS.out rfl _ HC6.out Tryz.underlying30 rfl (by kernel_rfl) ?_)
          | (go_at_call 33; (with_reducible refine HNMC.out.mono ?_); rintro e w7 ⟨⟨hn1, hn2⟩, b7⟩; have he7 := (VQ.out ▸ hn1 HFM.out); clear hn1 hn2; subst he7; have HB7 := Lib.hid b7; clear b7 HNMC; have HALL : Hid (∀ c : Array Value, (w7.alloc (.cells c 64)).heap[w7.heap.size]? = some (.cells c 64 (0, 0))) := (fun c => heap_alloc_last w7 _); have HALB : Hid (∀ c : Array Value, Below w7.heap.size w7 (w7.alloc (.cells c 64))) := (fun c => (Below.refl _ _).alloc (Nat.le_refl _) _))
          | (refine wpList_store_arr rfl 64 _ _ rfl w7.heap.size QA rfl rfl 64 _ (HALL.out _) (by rw [HQs.out]; kernel_rfl) (by rw [HQs.out]; rfl) HQ1.out ?_; intro w8 HC8 hf8; have HB78 : Hid (Below w7.heap.size w7 w8) := (HALB.out _).trans (hf8.out.below (HALB.out _).size (fun k hk e => by omega)); clear hf8 HALL HALB))
      have HB68 : Hid (Below w6.heap.size w6 w8) := HB7.out.trans (HB78.out.mono HB7.out.size)
      have HJ8 := Lib.hid (HJ6.out.later HB68.out)
      have HBW8 : Hid (Below w.heap.size w w8) := HBW6.out.trans (HB68.out.mono HBW6.out.size)
      have HR8 : Hid (w8.heap[B + 1]? = some (.cells zSetA 30 (0, 0))) := (HJ8.out.below.block _ hRl).trans HR3.out
      have HCQ : Hid (∀ j, j < 8 → w8.cell? ⟨w7.heap.size, 0 + j, none⟩ = some (vOf (nameS S) j)) := fun j hj => by
        rw [cell_of_block HC8.out, Nat.zero_add, ← VQ.out]
        simp [rowArr, hj]
      have HCN : Hid (∀ j, j < 8 → w8.cell? ⟨B, 0 + j, none⟩ = some (vOf name j)) := fun j hj => by
        rw [cell_of_block ((HJ8.out.below.block B (by omega)).trans HZ3.out), Nat.zero_add, HNA.out]
        simp [rowArr, hj]
      by_cases hnq : nameS S = name
      case' neg =>
        have d9 : decide (nameS S = name) = false := decide_eq_false hnq
        have HNQ := Lib.hid hnq
        clear hnq
        go_upto_region 20 with (first
          | (refine wpList_load_v (by rfl) 64 _ rfl w7.heap.size 0 8 _ QA VQ.out rfl _ HCQ.out Tryz.underlying64 rfl (by kernel_rfl) ?_)
          | (refine wpList_load_v (by rfl) 64 _ rfl B 0 8 _ NA VN.out rfl _ HCN.out Tryz.underlying64 rfl (by kernel_rfl) ?_))
        go_wp2_with (refine wpList_store_arr rfl 30 _ _ rfl (B + 1) zSetA rfl rfl 30 _ HR8.out (by kernel_rfl) rfl (by kernel_rfl) ?_; intro w9 HC9 hf9; have HB9 : Hid (Below w.heap.size w w9) := HBW8.out.trans (hf9.out.below HBW8.out.size (fun k hk e => by omega)); clear hf9)
        exact bodyPost_ret (v := .tuple #[.agg zSetA, .int .i64 2]) (results_cell_one rfl _ _ (B + 1) 30 zSetA (0, 0) _ rfl HC9.out Tryz.underlying30 rfl (by kernel_rfl) (.int .i64 2) rfl) rfl (HL2.out _ (fun h => HNQ.out h.2.2) HB9.out)
      have d9 : decide (nameS S = name) = true := decide_eq_true hnq
      have HNQ := Lib.hid hnq
      clear hnq
      go_upto_region 21 with (first
          | (refine wpList_load_v (by rfl) 64 _ rfl w7.heap.size 0 8 _ QA VQ.out rfl _ HCQ.out Tryz.underlying64 rfl (by kernel_rfl) ?_)
          | (refine wpList_load_v (by rfl) 64 _ rfl B 0 8 _ NA VN.out rfl _ HCN.out Tryz.underlying64 rfl (by kernel_rfl) ?_))
      have HCS8 := Lib.hid (HCS.out w8 HJ8.out)
      go_wp2_with (first
        | (refine wpList_load_v (by rfl) 30 _ rfl w3.heap.size 0 3 _ SV VS.out rfl _ HCS8.out Tryz.underlying30 rfl (by kernel_rfl) ?_)
        | (refine wpList_store_arr rfl 30 _ _ rfl (B + 1) SV rfl rfl 30 _ HR8.out (by rw [HSs.out]; kernel_rfl) (by rw [HSs.out]; rfl) HS1.out ?_; intro w9 HC9 hf9; have HB9 : Hid (Below w.heap.size w w9) := HBW8.out.trans (hf9.out.below HBW8.out.size (fun k hk e => by omega)); have HF9 := hf9; clear hf9))
      have HR : Hid (PQ (.returned (.tuple #[.agg SV, .int .i64 0])) w9) := by
        show PQ _ _
        rw [HPQ.out]
        have hnew : ∀ S' fa' fc' sa' sc', Ending.returned (.tuple #[.agg SV, .int .i64 0]) = .returned (.tuple #[.agg (rowArr 3 (setV S' fa' fc' sa' sc')), .int .i64 0]) → NewS w fa' sa' := fun S' fa' fc' sa' sc' e => by
          have h1 := (ret_code e).1
          rw [← VS.out] at h1
          obtain ⟨rfl, rfl⟩ := setRow_inj h1
          exact ⟨fun q hq => (by have := OwnF.newB (hq ▸ HJ8.out.fo); omega), fun q hq => (by have := OwnS.newB (hq ▸ HJ8.out.so); omega)⟩
        refine ⟨⟨HB9.out, M, HF.out, .inr ⟨m0, f0, S, HM0.out, HF0.out, HGE.out, .inr ⟨⟨HQE.out, HFM.out, HNQ.out⟩, fa, fc, sa, sc, by rw [VS.out], ?_, HSN.out⟩⟩⟩, hnew⟩
        have h8 := HSA.out w8 HJ8.out
        exact ⟨h8.slice, (HJ8.out.fo.fr HF9.out fun b hb e => by have := (HJ8.out.fo.at hb).1; omega).fils HGI.out.fok, (HJ8.out.so.fr HF9.out fun b hb e => by have := (HJ8.out.so.at hb).1; omega).sms HGI.out.sok⟩
      exact bodyPost_ret (v := .tuple #[.agg SV, .int .i64 0]) (results_cell_one rfl _ _ (B + 1) 30 SV (0, 0) _ rfl HC9.out Tryz.underlying30 rfl (by rw [HSs.out]; kernel_rfl) (.int .i64 0) rfl) rfl HR.out
theorem join14_any (pa : Option Addr) (pc : Nat) (F : List Pw) (name : List Nat) (w : World) (hs : PkSl w pa pc F) (h8 : name.length = 8) (hb8 : IsByte name) (hl : F.length ≤ 500) (hsm : ∀ f ∈ F, f.p.set = name → f.p.sums.length ≤ 600) (hm : Mx w) (ht : Tabs w) :
    Calls Tryz.prog 19 #[.slice pa F.length pc, .agg (rowArr 8 (vOf name))] w (JoinPost F name w) := (join14_new pa pc F name w hs h8 hb8 hl hsm hm ht).mono fun _ _ h => h.1
end Go.Proofs.YtfgaohilpbocbaaGreatDoor
end
