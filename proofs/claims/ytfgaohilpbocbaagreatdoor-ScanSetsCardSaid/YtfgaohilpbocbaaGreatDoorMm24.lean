/-
  The document's Bodies.
  The document's Name.
  The document's Index: all bytes of a formed set's directory.
  Packets' bytes: how many, and that they are bytes.
  Slices of slices, seen from later on.
-/
import Derived.Test.YtfgaohilpbocbaaGreatDoorMm23
section
namespace Go.Proofs.YtfgaohilpbocbaaGreatDoor
open Go.ChangeShapes Go.WideShapes Go.ChangeAt Go.RowKit Go.Joins
set_option linter.unusedVariables false

theorem builtI_one : Tryz.prog.builtSlice 3 1 [(0, .int .i64 1)] = some #[.int .i64 1] := by kernel_rfl
theorem builtI_two : Tryz.prog.builtSlice 3 2 [(0, .int .i64 2), (1, .int .i64 3)] = some #[.int .i64 2, .int .i64 3] := by kernel_rfl
theorem builtV_one (a : Option Addr) (n c : Nat) : Tryz.prog.builtSlice 53 1 [(0, .slice a n c)] = some #[.slice a n c] := by kernel_rfl
theorem builtV_two (a a' : Option Addr) (n c n' c' : Nat) : Tryz.prog.builtSlice 53 2 [(0, .slice a n c), (1, .slice a' n' c')] = some #[.slice a n c, .slice a' n' c'] := by kernel_rfl
theorem op_twoV {o : Oper} {a : Act} {w : World} {K : Act → World → Prop} {Q : Exit → Act → World → Prop} (x y : Operand) (ho : o.op = .buildSlice 31 2 #[(0, x), (1, y)]) (p p' : Option Addr) (n c n' c' : Nat) (hx : a.eval x = .slice p n c) (hy : a.eval y = .slice p' n' c')
    (h : K (a.put o.dst (.slice (some ⟨w.heap.size, 0, none⟩) 2 2)) (w.alloc (.cells #[.slice p n c, .slice p' n' c'] 53))) : o.wp Tryz.prog a w K Q := by
  have hf := builtV_two p p' n c n' c'
  unfold Program.builtSlice at hf
  cases hie : Tryz.prog.info? 53 with
  | none => simp [hie] at hf
  | some ie =>
    simp only [hie] at hf
    cases hz : ie.zero with
    | none => simp [hz] at hf
    | some z =>
      simp only [hz] at hf
      by_cases hc : 2 * ie.size > 2 ^ 24 ∨ 2 * ie.size = 0
      · rw [if_pos hc] at hf; cases hf
      · rw [if_neg hc] at hf
        refine wp_buildSlice 31 53 2 _ ho _ ie z Tryz.underlying31 hie hz (fun h' => hc (Or.inl h')) (fun h' => hc (Or.inr h')) ?_ h
        simp only [List.map_toArray, List.map_cons, List.map_nil, hx, hy]
        exact hf
theorem BoSt.base {w0 w1 wr : World} {kv bv : Value} {K : List Int} {F : List Bw} (h : BoSt w1 wr kv bv K F) (hb : Below w0.heap.size w0 w1) : BoSt w0 wr kv bv K F := by
  refine ⟨⟨h.ko.1, ?_⟩, ⟨h.bo.1, ?_⟩, hb.trans (h.below.mono hb.size), h.bods⟩
  · rcases h.ko.2 with e | ⟨g, cap, cur, e, hB, r⟩
    · exact .inl e
    · exact .inr ⟨g, cap, cur, e, Nat.le_trans hb.size hB, r⟩
  · rcases h.bo.2 with e | ⟨g, cap, cur, e, hB, r⟩
    · exact .inl e
    · exact .inr ⟨g, cap, cur, e, Nat.le_trans hb.size hB, r⟩
theorem Own1.lit (e : TypeId) {w0 w : World} (xs : List Value) (hb : w0.heap.size ≤ w.heap.size) (hm : xs.length ≤ maxLen) : Own1 e w0.heap.size (w.alloc (.cells xs.toArray e)) (.slice (some ⟨w.heap.size, 0, none⟩) xs.length xs.length) xs :=
  ⟨by omega, .inr ⟨w.heap.size, xs.length, xs.toArray, rfl, hb, heap_alloc_last w _, Nat.le_refl _, hm, by simp, by simp⟩⟩
def BodiesPost (S : St) (w : World) (e : Ending) (w' : World) : Prop := ∃ kv bv F, e = .returned (.tuple #[kv, bv]) ∧ BoSt w w' kv bv ((dirTo S S.files.length).map (·.kind)) F ∧ F.map (·.l) = (dirTo S S.files.length).map pkBody
set_option maxRecDepth 1000000 in
set_option maxHeartbeats 16000000 in
theorem refBodies_any (S : St) (fa : Option Addr) (fc : Nat) (sa : Option Addr) (sc : Nat) (w : World) (hs : SetAt w S fa fc sa sc) (hf : FormedP S) :
    Calls Tryz.prog 45 #[.agg (rowArr 3 (setV S fa fc sa sc))] w (BodiesPost S w) := by
  have mixed : Tryz.prog.follows .mixedOrders = true := by kernel_rfl
  have hB0 : Below w.heap.size w (w.alloc (.cells (rowArr 3 (setV S fa fc sa sc)) 30)) := (Below.refl _ _).alloc (Nat.le_refl _) _
  have HX := Lib.hid (SetBox.new w S fa fc sa sc)
  have HS := Lib.hid (hs.below hB0)
  have HB := Lib.hid hB0
  have hfl := hs.files.lt
  have hsl := hs.slices.lt
  obtain ⟨sr1, sr2⟩ := hs.slice
  have s1 := hf.s1
  have s2 := hf.s2
  have hM64 := hf.m1
  have hL8 := hf.f2
  have hL1 := hf.f1
  have HD : Hid (DirIn S) := ⟨hs.slice, hs.files.rng, hs.slices.rng, s1, s2, hM64, hL8⟩
  have HFO := Lib.hid hf
  obtain ⟨PQ, hPQ⟩ : ∃ PQ, PQ = BodiesPost S w := ⟨_, rfl⟩
  have HPQ := Lib.hid hPQ
  rw [← hPQ]
  obtain ⟨arr, harr⟩ : ∃ arr, arr = rowArr 3 (setV S fa fc sa sc) := ⟨_, rfl⟩
  rw [← harr] at HX HS HB ⊢
  clear harr hB0 hs hPQ hf
  go_enter Tryz.func45, Tryz.ntmps45
  go_upto_region 1 with fail
  obtain ⟨b, hb⟩ : ∃ b, b = w.heap.size := ⟨_, rfl⟩
  rw [← hb] at HX ⊢
  have hbl : b < (w.alloc (.cells arr 30)).heap.size := World.block_lt_of_cell? _ _ HX.out.c0
  generalize w.alloc (.cells arr 30) = w1 at *
  clear hb
  have HBI := Lib.hid builtI_one
  go_upto_region 2 with (refine Go.Great.wpList_buildSliceTo rfl 90 3 1 _ rfl w1.heap.size rfl (some 8) rfl Tryz.underlying90 #[.int .i64 1] ?_ ?_; exact HBI.out)
  have HK2 : Hid (Own1 3 w1.heap.size (w1.alloc (.cells #[.int .i64 1] 3)) (.slice (some ⟨w1.heap.size, 0, none⟩) 1 1) [.int .i64 1]) := Own1.lit 3 [.int .i64 1] (Nat.le_refl _) (by unfold maxLen; simp)
  have HB2 : Hid (Below w1.heap.size w1 (w1.alloc (.cells #[.int .i64 1] 3))) := (Below.refl _ _).alloc (Nat.le_refl _) _
  generalize w1.alloc (.cells #[.int .i64 1] 3) = w2 at *
  obtain ⟨kv0, hkv0⟩ : ∃ kv0, kv0 = Value.slice (some ⟨w1.heap.size, 0, none⟩) 1 1 := ⟨_, rfl⟩
  rw [← hkv0] at HK2 ⊢
  clear hkv0 HBI
  have c0 := (HX.out.below HB2.out).c0
  have c1 := (HX.out.below HB2.out).c1
  have c2 := (HX.out.below HB2.out).c2
  have HMN := Lib.hid (refMain_any S.slice (S.files.length : Int) (S.slices.length : Int) w2 ⟨sr1, sr2⟩ ⟨by omega, by omega⟩ ⟨by omega, by omega⟩)
  have HMB : Hid (IsByte (mainN S.slice (S.files.length : Int) (S.slices.length : Int))) := body_isByte (pkIn_main (S := S) ⟨sr1, sr2⟩ (by omega) (by omega))
  go_upto_region 3 with (first
    | (go_at_call 89; (with_reducible refine HMN.out.mono ?_); rintro e w3 ⟨v, rfl, ha⟩; obtain ⟨ma, mc, hv, _⟩ := ha.own.sl HMB.out; obtain ⟨ml, hml⟩ : ∃ ml, ml = (mainN S.slice (S.files.length : Int) (S.slices.length : Int)).length := ⟨_, rfl⟩; rw [← hml] at hv; clear hml; subst hv; have HA := Lib.hid ha; have HBV := Lib.hid (builtV_one ma ml mc); clear ha HMN)
    | (refine Go.Great.wpList_buildSliceTo rfl 31 53 1 _ rfl w3.heap.size rfl (some 18) rfl Tryz.underlying31 #[.slice ma ml mc] ?_ ?_; exact HBV.out))
  have HW0 : Hid (BoSt w1 (w3.alloc (.cells #[.slice ma ml mc] 53)) kv0 (.slice (some ⟨w3.heap.size, 0, none⟩) 1 1) [1] [⟨.slice ma ml mc, mainN S.slice (S.files.length : Int) (S.slices.length : Int)⟩]) := by
    have h1 : Below w1.heap.size w1 w3 := HB2.out.trans (HA.out.below.mono HB2.out.size)
    have h3 : Below w3.heap.size w3 (w3.alloc (.cells #[.slice ma ml mc] 53)) := (Below.refl _ _).alloc (Nat.le_refl _) _
    refine ⟨(HK2.out.fr (X := fun _ => False) (Fr.of_below HA.out.below) (fun _ _ h => h)).fr (X := fun _ => False) (Fr.of_below h3) (fun _ _ h => h), Own1.lit 53 [.slice ma ml mc] h1.size (by unfold maxLen; simp), h1.trans (h3.mono h1.size), fun x hx => ?_⟩
    obtain rfl : x = _ := List.mem_singleton.1 hx
    exact ⟨HA.out.own.fr (X := fun _ => False) (Fr.of_below h3) (fun _ _ h => h), HMB.out⟩
  generalize w3.alloc (.cells #[.slice ma ml mc] 53) = w4 at *
  obtain ⟨bv0, hbv0⟩ : ∃ bv0, bv0 = Value.slice (some ⟨w3.heap.size, 0, none⟩) 1 1 := ⟨_, rfl⟩
  rw [← hbv0] at HW0 ⊢
  clear hbv0 HBV c0 c1 c2 HK2 HB2 HA
  have c1 := (HX.out.below HW0.out.below).c1
  have HG0 : Hid (Good S 0 0) := .zero
  have HL0 : Hid (List.map (fun x : Bw => x.l) [⟨.slice ma ml mc, mainN S.slice (S.files.length : Int) (S.slices.length : Int)⟩] = (dirTo S 0).map pkBody) := rfl
  have HW1 : Hid (BoSt w1 w4 kv0 bv0 ((dirTo S 0).map (·.kind)) [⟨.slice ma ml mc, mainN S.slice (S.files.length : Int) (S.slices.length : Int)⟩]) := HW0.out
  clear HW0
  go_wp2_with fail
  clear c1
  go_loopw [4, 5, 22] (fun t s i wr => ∃ (n k : Nat) (F : List Bw), k ≤ S.files.length ∧ i = .int .i64 k ∧ Hid (Good S k n) ∧ Hid (BoSt w1 wr t s ((dirTo S k).map (·.kind)) F) ∧ Hid (F.map (fun x => x.l) = (dirTo S k).map pkBody)) (fun _ _ i _ => S.files.length - (intOf i).toNat)
  case atStart => exact ⟨0, 0, _, by omega, rfl, HG0, HW1, HL0⟩
  case round =>
    obtain ⟨n, k, F, hk, rfl, HG, HP, HFD⟩ := hrel
    clear HG0 HW1 HL0
    by_cases hlt : k < S.files.length
    · have hok1 := not_formed HG.out hlt HFO.out
      obtain ⟨fb, off, rfl, hbl2, hx⟩ := fils_one (HS.out.files.below HP.out.below) hlt
      have hok := HS.out.files.rng _ (List.getElem_mem hlt)
      have hgd : S.files.getD k zFil = S.files[k] := by simp [List.getD, hlt]
      obtain ⟨f, hf⟩ : ∃ f, f = S.files[k] := ⟨_, rfl⟩
      rw [← hf] at hx hok hgd
      have hfst : f.first = (n : Int) := hgd ▸ hok1.first
      have hroom := hok1.room
      have hnml : f.name.length ≤ 40 := by have := name_len hok1.name; rw [hgd] at this; exact this
      have HPT : Hid (partS S k = (S.slices.drop n).take (cntN f.size S.slice)) := by
        show _ = _
        unfold partS
        rw [hgd, hfst, Int.toNat_natCast]
      rw [hgd] at hroom
      have HOK1 := Lib.hid hok1
      have HGD := Lib.hid hgd
      have HOK := Lib.hid hok
      have HXC := Lib.hid hx
      obtain ⟨SX, hSX⟩ : ∃ SX, SX = rowArr 35 (filV f) := ⟨_, rfl⟩
      have VX : Hid (rowArr 35 (filV f) = SX) := hSX.symm
      have hSXs : SX.size = 35 := by rw [hSX, rowArr_size]
      have hSX1 : SX.all (·.oneCell') = true := by rw [hSX]; exact oneCell_fil f
      have HSXs := Lib.hid hSXs
      have HSX1 := Lib.hid hSX1
      have HALL : Hid (∀ c : Array Value, (wr.alloc (.cells c 98)).heap[wr.heap.size]? = some (.cells c 98 (0, 0))) := fun c => heap_alloc_last wr _
      have HALB : Hid (∀ c : Array Value, Below wr.heap.size wr (wr.alloc (.cells c 98))) := fun c => (Below.refl _ _).alloc (Nat.le_refl _) _
      clear hx hok hf hSX hSXs hSX1 hgd hok1
      obtain ⟨c, hc⟩ : ∃ c, c = cntN f.size S.slice := ⟨_, rfl⟩
      rw [← hc] at hroom HPT
      have HCC := Lib.hid hc
      have hc63 : c ≤ 64 := by omega
      clear hc
      have c1r := (HX.out.below HP.out.below).c1
      go_upto_region 7 with (first
        | (refine wpList_load_v (by rfl) 98 _ rfl fb (off + k * 35) 35 _ SX VX.out rfl _ HXC.out und_file rfl (by kernel_rfl) ?_)
        | (refine wpList_store_arr rfl 98 _ _ rfl wr.heap.size SX rfl rfl 98 _ (HALL.out _) (by rw [HSXs.out]; kernel_rfl) (by rw [HSXs.out]; rfl) HSX1.out ?_; intro w7 HC7 hf7; have HB67 : Hid (Below wr.heap.size wr w7) := (HALB.out _).trans (hf7.out.below (HALB.out _).size (fun k hk e => by omega)); clear hf7 HALL HALB))
      clear c1r
      have HP7 := Lib.hid (HP.out.later HB67.out)
      have HN4 : Hid (¬ u4.ownBlock = some wr.heap.size) := fun e => by have := (HP.out.ko.at e).2; omega
      have HN5 : Hid (¬ u5.ownBlock = some wr.heap.size) := fun e => by have := (HP.out.bo.at e).2; omega
      obtain ⟨g, hg⟩ : ∃ g, g = wr.heap.size := ⟨_, rfl⟩
      rw [← hg] at HC7 HN4 HN5
      rw [← hg]
      rw [← VX.out] at HC7
      have HB8 : Hid (Below w7.heap.size w7 (w7.alloc (.cells #[.int .i64 2, .int .i64 3] 3))) := (Below.refl _ _).alloc (Nat.le_refl _) _
      have HC8 : Hid ((w7.alloc (.cells #[.int .i64 2, .int .i64 3] 3)).heap[w7.heap.size]? = some (.cells [Value.int .i64 2, .int .i64 3].toArray 3 (0, 0))) := heap_alloc_last w7 _
      have HP8 := Lib.hid (HP7.out.later HB8.out)
      have HG8 : Hid ((w7.alloc (.cells #[.int .i64 2, .int .i64 3] 3)).heap[g]? = some (.cells (rowArr 35 (filV f)) 98 (0, 0))) := (HB8.out.block g (Array.getElem?_eq_some_iff.1 HC7.out).1).trans HC7.out
      have hKl : ((dirTo S k).map (·.kind)).length = 2 * k + 1 := by rw [List.length_map, dirTo_len]
      have hKl2 : (((dirTo S k).map (·.kind)).map (Value.int .i64)).length ≤ 1000000 := by rw [List.length_map, hKl]; omega
      have hFl : (F.map (·.v)).length ≤ 1000000 := by
        have := congrArg List.length HFD.out
        simp only [List.length_map, dirTo_len] at this
        rw [List.length_map]; omega
      have HKL := Lib.hid hKl2
      have HFL := Lib.hid hFl
      have HBI2 := Lib.hid builtI_two
      have h1s : w1.heap.size ≤ (w7.alloc (.cells #[.int .i64 2, .int .i64 3] 3)).heap.size := HP8.out.below.size
      have H1S := Lib.hid h1s
      clear HB67 HXC HSXs HSX1 hg HP hKl hKl2 hFl h1s
      go_upto_region 8 with (first
        | (refine Go.Great.wpList_buildSliceTo rfl 90 3 2 _ rfl w7.heap.size rfl (some 31) rfl Tryz.underlying90 #[.int .i64 2, .int .i64 3] ?_ ?_; exact HBI2.out)
        | (at_builtin; refine wpList_push_1 _ rfl (.tmp 30) (.tmp 31) 90 3 rfl Tryz.underlying90 infoInt rfl (by decide) w1.heap.size u4 _ rfl HP8.out.ko w7.heap.size 2 rfl [.int .i64 2, .int .i64 3] rfl HC8.out (by decide) H1S.out HKL.out (by decide) ?_; intro v9 w9 o9 g9 e9))
      have HP9 : Hid (BoSt w1 w9 v9 u5 ((dirTo S k).map (·.kind) ++ [2, 3]) F) := HP8.out.kinds (G := [2, 3]) o9.out g9.out
      have HG9 : Hid (w9.heap[g]? = some (.cells (rowArr 35 (filV f)) 98 (0, 0))) := ((Fr.of_grown (X := fun b => u4.ownBlock = some b) g9.out fun b e => e).block g (Array.getElem?_eq_some_iff.1 HG8.out).1 HN4.out).trans HG8.out
      clear o9 g9 e9 HP8 HG8 HC8 HB8 HBI2 H1S HKL HP7 HN4 HC7
      obtain ⟨wd, hwd⟩ : ∃ wd, wd = w9.drew := ⟨_, rfl⟩
      have HPD : Hid (BoSt w1 wd v9 u5 ((dirTo S k).map (·.kind) ++ [2, 3]) F) := by rw [hwd]; exact HP9.out.later (Below.refl _ _).drew
      have hCD : wd.heap[g]? = some (.cells (rowArr 35 (filV f)) 98 (0, 0)) := by rw [hwd]; exact HG9.out
      have hgl := (Array.getElem?_eq_some_iff.1 hCD).1
      have hXD := HX.out.below HPD.out.below
      have hbl3 : b < wd.heap.size := World.block_lt_of_cell? wd _ hXD.c0
      have hbo : ¬ u5.ownBlock = some b := fun e => by have := (HPD.out.bo.at e).1; omega
      have k0 : ∀ u : KeepW wd (fun j => u5.ownBlock = some j), u.v.cell? ⟨b, 0, none⟩ = some (.int .i64 S.slice) := fun u => (u.cell hbl3 hbo).trans hXD.c0
      have k2 : ∀ u : KeepW wd (fun j => u5.ownBlock = some j), u.v.cell? ⟨b, 2, none⟩ = some (.slice sa S.slices.length sc) := fun u => (u.cell hbl3 hbo).trans hXD.c2
      have k34 : ∀ u : KeepW wd (fun j => u5.ownBlock = some j), u.v.cell? ⟨g, 34, none⟩ = some (.int .i64 (n : Int)) := fun u => (u.cell hgl HN5.out).trans (by rw [cell_of_block hCD, ← hfst]; rfl)
      have k1 : ∀ u : KeepW wd (fun j => u5.ownBlock = some j), u.v.cell? ⟨g, 1, none⟩ = some (.int .i64 f.size) := fun u => (u.cell hgl HN5.out).trans (by rw [cell_of_block hCD]; rfl)
      have KX : Hid (∀ u : KeepW wd (fun j => u5.ownBlock = some j), ∀ j, j < 35 → u.v.cell? ⟨g, 0 + j, none⟩ = some (filV f j)) := fun u j hj => (u.cell hgl HN5.out).trans (by rw [cell_of_block hCD, Nat.zero_add]; simp [rowArr, hj])
      obtain ⟨a2, cap2, hsl2, hsm2, _⟩ := sms_slice (HS.out.slices.below HPD.out.below) n c hroom
      rw [← HPT.out] at hsm2
      have hln : (partS S k).length = c := by rw [HPT.out, List.length_take, List.length_drop]; omega
      have HSM2 := Lib.hid hsm2
      have HLN := Lib.hid hln
      have hrf := refFile_any (k : Int) f wd ⟨by omega, by omega⟩ HOK.out (by omega)
      rw [VX.out] at hrf
      have HRF := Lib.hid hrf
      have HB1 : Hid (IsByte (fileN (k : Int) f)) := body_isByte (pkIn_file (i := k) (by omega) HOK.out)
      have HB2 : Hid (IsByte (sumsN (k : Int) (partS S k))) := body_isByte (pkIn_sums (i := k) (by omega) hsm2.rng)
      clear hsm2 hln hrf hXD hbl3 hbo hCD hgl HG9 HP9
      refine growK_begin 21 (fun w' => ∃ u : KeepW wd (fun j => u5.ownBlock = some j), w' = u.v) (by kernel_rfl) ?_
      rw [← hwd]
      clear hwd
      refine growK_take (by kernel_rfl) [0, 1, 2, 4, 5, 6, 7, 8, 9, 10, 11, 12, 13, 14] 8 _ _ (by kernel_rfl) _ (keep_class (Fr.refl _ _)) ?_
      simp only [opsAt, List.getElem?_toArray, List.getElem?_cons_succ, List.getElem?_cons_zero]
      repeat (first
        | (refine wpQuiet_load_v (by rfl) 98 _ rfl g 0 35 _ SX VX.out rfl _ (fun w hw j hj => by obtain ⟨u, rfl⟩ := hw; exact KX.out u j hj) und_file rfl (by kernel_rfl) ?_)
        | go_big_quiet_step (fail) | quiet_step (fail))
      refine wpQuiet_nil ?_
      clear k0 k1 k2 k34 KX
      refine growK_one 3 (by kernel_rfl) (fun K hK => ?_)
      simp only [stepOf, List.getElem?_toArray, List.getElem?_cons_succ, List.getElem?_cons_zero]
      go_simp
      go_at_call 90
      (with_reducible refine HRF.out.mono ?_)
      rintro e w10 ⟨v1, rfl, ha1⟩
      obtain ⟨p1, q1, hv1, _⟩ := ha1.own.sl HB1.out
      obtain ⟨l1, hl1⟩ : ∃ l1, l1 = (fileN (k : Int) f).length := ⟨_, rfl⟩
      rw [← hl1] at hv1
      clear hl1
      subst hv1
      have HA1 := Lib.hid ha1
      refine hK.out _ _ (keep_class (Fr.of_below HA1.out.below)) ?_
      clear hK K HRF ha1
      have HCT := Lib.hid (count_any f.size S.slice w10 HOK.out.size ⟨sr1, sr2⟩)
      rw [← HCC.out] at HCT
      refine growK_one 15 (by kernel_rfl) (fun K hK => ?_)
      simp only [stepOf, List.getElem?_toArray, List.getElem?_cons_succ, List.getElem?_cons_zero]
      go_simp
      go_at_call 47
      (with_reducible refine HCT.out.mono ?_)
      rintro e w10' ⟨rfl, hw10⟩
      subst hw10
      refine hK.out _ _ (keep_class (Fr.of_below HA1.out.below)) ?_
      clear hK K HCT
      refine growK_take (by kernel_rfl) [16, 17] 4 _ _ (by kernel_rfl) _ (keep_class (Fr.of_below HA1.out.below)) ?_
      simp only [opsAt, List.getElem?_toArray, List.getElem?_cons_succ, List.getElem?_cons_zero]
      repeat (first | go_big_quiet_step (fail) | quiet_step (fail))
      refine wpQuiet_nil ?_
      clear hsl2
      have hrs := refSums_any (k : Int) a2 cap2 (partS S k) w10 ⟨by omega, by omega⟩ (HSM2.out.below HA1.out.below) (by rw [HLN.out]; omega)
      rw [HLN.out] at hrs
      have HRS := Lib.hid hrs
      clear hrs
      refine growK_one 18 (by kernel_rfl) (fun K hK => ?_)
      simp only [stepOf, List.getElem?_toArray, List.getElem?_cons_succ, List.getElem?_cons_zero]
      go_simp
      go_at_call 91
      (with_reducible refine HRS.out.mono ?_)
      rintro e w11 ⟨v2, rfl, ha2⟩
      obtain ⟨p2, q2, hv2, _⟩ := ha2.own.sl HB2.out
      obtain ⟨l2, hl2⟩ : ∃ l2, l2 = (sumsN (k : Int) (partS S k)).length := ⟨_, rfl⟩
      rw [← hl2] at hv2
      clear hl2
      subst hv2
      have HA2 := Lib.hid ha2
      have HB11 : Hid (Below wd.heap.size wd w11) := HA1.out.below.trans (HA2.out.below.mono HA1.out.below.size)
      refine hK.out _ _ (keep_class (Fr.of_below HB11.out)) ?_
      clear hK K HRS ha2
      refine growK_one 19 (by kernel_rfl) (fun K hK => ?_)
      simp only [stepOf, List.getElem?_toArray, List.getElem?_cons_succ, List.getElem?_cons_zero]
      rw [if_pos (by rfl)]
      refine op_twoV _ _ rfl p1 p2 l1 q1 l2 q2 rfl rfl ?_
      have HB12 : Hid (Below w11.heap.size w11 (w11.alloc (.cells #[.slice p1 l1 q1, .slice p2 l2 q2] 53))) := (Below.refl _ _).alloc (Nat.le_refl _) _
      have HC12 : Hid ((w11.alloc (.cells #[.slice p1 l1 q1, .slice p2 l2 q2] 53)).heap[w11.heap.size]? = some (.cells [Value.slice p1 l1 q1, .slice p2 l2 q2].toArray 53 (0, 0))) := heap_alloc_last w11 _
      generalize w11.alloc (.cells #[.slice p1 l1 q1, .slice p2 l2 q2] 53) = w12 at *
      have HBw : Hid (Below wd.heap.size wd w12) := HB11.out.trans (HB12.out.mono HB11.out.size)
      refine hK.out _ _ (keep_class (Fr.of_below HBw.out)) ?_
      clear hK K
      have HPt := Lib.hid (HPD.out.later HBw.out)
      have HG1 : Hid (∀ x ∈ [(⟨.slice p1 l1 q1, fileN (k : Int) f⟩ : Bw), ⟨.slice p2 l2 q2, sumsN (k : Int) (partS S k)⟩], OwnB w12 x.v x.l ∧ IsByte x.l) := fun x hx => by
        simp only [List.mem_cons, List.mem_nil_iff, or_false] at hx
        rcases hx with rfl | rfl
        · exact ⟨((HA1.out.later HA2.out.below).later HB12.out).own, HB1.out⟩
        · exact ⟨(HA2.out.later HB12.out).own, HB2.out⟩
      have hsz : w1.heap.size ≤ w12.heap.size := HPt.out.below.size
      refine growK_one 20 (by kernel_rfl) (fun K hK => ?_)
      simp only [stepOf, List.getElem?_toArray, List.getElem?_cons_succ, List.getElem?_cons_zero]
      rw [if_pos (by rfl)]
      refine op_push_1 _ (.tmp 33) (.tmp 52) 31 53 rfl Tryz.underlying31 infoBs rfl (by decide) w1.heap.size u5 _ rfl HPt.out.bo w11.heap.size 2 rfl [.slice p1 l1 q1, .slice p2 l2 q2] rfl HC12.out (by intro u hu; simp only [List.mem_cons, List.mem_nil_iff, or_false] at hu; rcases hu with rfl | rfl <;> rfl) hsz HFL.out (by decide) ?_
      intro v13 w13 o13 g13 e13
      have HP13 : Hid (BoSt w1 w13 v9 v13 ((dirTo S k).map (·.kind) ++ [2, 3]) (F ++ [⟨.slice p1 l1 q1, fileN (k : Int) f⟩, ⟨.slice p2 l2 q2, sumsN (k : Int) (partS S k)⟩])) := HPt.out.more HG1.out o13.out g13.out
      have F13 : Hid (Fr (fun j => u5.ownBlock = some j) wd w13) := (Fr.of_below HBw.out).trans (Fr.of_grown g13.out fun b e => e)
      refine hK.out _ _ (keep_class F13.out) ?_
      clear hK K o13 g13 e13 HPt HC12 HG1
      have HG2 : Hid (Good S (k + 1) (n + c)) := by
        have := Good.next HG.out hlt HOK1.out
        rw [HGD.out, ← HCC.out] at this
        exact this
      have HP14 : Hid (BoSt w1 w13 v9 v13 ((dirTo S (k + 1)).map (·.kind)) (F ++ [⟨.slice p1 l1 q1, fileN (k : Int) f⟩, ⟨.slice p2 l2 q2, sumsN (k : Int) (partS S k)⟩])) := by
        have e : (dirTo S (k + 1)).map (·.kind) = (dirTo S k).map (·.kind) ++ [2, 3] := by rw [dirTo, List.map_append]; rfl
        rw [e]; exact HP13.out
      have HF14 : Hid ((F ++ [(⟨.slice p1 l1 q1, fileN (k : Int) f⟩ : Bw), ⟨.slice p2 l2 q2, sumsN (k : Int) (partS S k)⟩]).map (fun x : Bw => x.l) = (dirTo S (k + 1)).map pkBody) := by
        show _ = _
        rw [List.map_append, HFD.out, dirTo, List.map_append, HGD.out]
        rfl
      refine growK_last (by kernel_rfl) (by kernel_rfl) (fun K hK => ?_)
      simp only [stepOf, List.getElem?_toArray, List.getElem?_cons_succ, List.getElem?_cons_zero]
      go_simp
      refine hK.out _ _ ?_
      clear hK K F13
      go_wp2_with fail
      go_roundw
      case rel => exact ⟨n + c, k + 1, _, by omega, by go_num, HG2, HP14, HF14⟩
      case measure => simp [intOf]; omega
    · obtain rfl : k = S.files.length := by omega
      have HR : Hid (PQ (.returned (.tuple #[u4, u5])) wr) := by
        show PQ _ _
        rw [HPQ.out]
        exact ⟨u4, u5, F, rfl, HP.out.base HB.out, HFD.out⟩
      go_wp2_with fail
      exact HR.out
end Go.Proofs.YtfgaohilpbocbaaGreatDoor
end

section
namespace Go.Proofs.YtfgaohilpbocbaaGreatDoor
open Go.ChangeShapes Go.WideShapes Go.ChangeAt Go.RowKit Go.Joins
set_option linter.unusedVariables false

theorem one_byte14 (w : World) (n : Nat) (hn : n < 256) : Sl (w.alloc (.cells #[.int .u8 (n : Int)] 5)) (some ⟨w.heap.size, 0, none⟩) 1 [n] := by
  have h0 : (w.alloc (.cells #[.int .u8 (n : Int)] 5)).heap[w.heap.size]? = some (.cells #[.int .u8 (n : Int)] 5 (0, 0)) := heap_alloc_last w _
  refine ⟨fun m hm => ?_, by simp, by unfold maxLen; omega, fun e => (by cases e), .inr ⟨w.heap.size, 0, rfl, fun j hj => ?_⟩⟩
  · simp at hm; omega
  · have hj0 : j = 0 := by simpa using hj
    subst hj0
    rw [cell_of_row _ _ _ _ _ _ h0]; rfl
theorem body_len14 {p : Pk} (hi : PkIn p) (ho : pkOk p) : (pkBody p).length ≤ tellQ p := by
  have := tell_len hi ho
  rw [kb_len] at this
  omega
set_option maxRecDepth 1000000 in
set_option maxHeartbeats 16000000 in
theorem refName14_any (S : St) (fa : Option Addr) (fc : Nat) (sa : Option Addr) (sc : Nat) (w : World) (hs : SetAt w S fa fc sa sc) (hf : FormedP S) :
    Calls Tryz.prog 18 #[.agg (rowArr 3 (setV S fa fc sa sc))] w fun e w' => e = .returned (.agg (rowArr 8 (vOf (nameS S)))) ∧ Below w.heap.size w w' := by
  have mixed : Tryz.prog.follows .mixedOrders = true := by kernel_rfl
  obtain ⟨PQ, hPQ⟩ : ∃ PQ : Ending → World → Prop, PQ = fun e w' => e = .returned (.agg (rowArr 8 (vOf (nameS S)))) ∧ Below w.heap.size w w' := ⟨_, rfl⟩
  have HPQ := Lib.hid hPQ
  rw [← hPQ]
  obtain ⟨arr, harr⟩ : ∃ arr, arr = rowArr 3 (setV S fa fc sa sc) := ⟨_, rfl⟩
  have HAR : Hid (arr.size = 3) := by show _ = _; rw [harr, rowArr_size]
  have hB0 : Below w.heap.size w (w.alloc (.cells arr 30)) := (Below.refl _ _).alloc (Nat.le_refl _) _
  have hB1 : Below w.heap.size w ((w.alloc (.cells arr 30)).alloc (.cells z8A 64)) := hB0.alloc hB0.size _
  have HB := Lib.hid hB1
  have HX1 : Hid (((w.alloc (.cells arr 30)).alloc (.cells z8A 64)).heap[w.heap.size]? = some (.cells arr 30 (0, 0))) := by
    have h1 : (w.alloc (.cells arr 30)).heap[w.heap.size]? = some (.cells arr 30 (0, 0)) := heap_alloc_last w _
    have h2 : Below (w.alloc (.cells arr 30)).heap.size (w.alloc (.cells arr 30)) ((w.alloc (.cells arr 30)).alloc (.cells z8A 64)) := (Below.refl _ _).alloc (Nat.le_refl _) _
    exact (h2.block _ (Array.getElem?_eq_some_iff.1 h1).1).trans h1
  have hs1 : (w.alloc (.cells arr 30)).heap.size = w.heap.size + 1 := by simp
  have HR1 : Hid (((w.alloc (.cells arr 30)).alloc (.cells z8A 64)).heap[w.heap.size + 1]? = some (.cells z8A 64 (0, 0))) := by
    show _ = _
    rw [← hs1]; exact heap_alloc_last _ _
  have HBD := Lib.hid (refBodies_any S fa fc sa sc _ (hs.below hB1) hf)
  have HD : Hid (DirIn S) := ⟨hs.slice, hs.files.rng, hs.slices.rng, hf.s1, hf.s2, hf.m1, hf.f2⟩
  obtain ⟨d1, d2⟩ := dir_ok HD.out hf.good
  have hf2 := hf.f2
  have hm1 := hf.m1
  have hcost : costN (dirTo S S.files.length) ≤ 5000 := by omega
  have hDl := dirTo_len S S.files.length
  have hnS : nameS S = nameOf (dirTo S S.files.length) := rfl
  obtain ⟨D, hD⟩ : ∃ D, D = dirTo S S.files.length := ⟨_, rfl⟩
  have hDN : D.length ≤ 17 := by rw [hD, hDl]; omega
  rw [← hD] at d1 d2 hcost hnS
  have HDO : Hid (∀ p ∈ D, PkIn p ∧ pkOk p) := fun p hp => ⟨(d1 p hp).1, (d1 p hp).2.1⟩
  have HCO := Lib.hid hcost
  have HNS := Lib.hid hnS
  have HDE := Lib.hid hD
  rw [← harr] at HBD ⊢
  clear harr hB0 hB1 hs hPQ hs1 d1 d2 hf2 hm1 hcost hDl hnS hD hf
  go_enter Tryz.func18, Tryz.ntmps18
  go_upto_region 1 with fail
  change Code.wp _ _ _ _ ((w.alloc (.cells arr 30)).alloc (.cells z8A 64))
  obtain ⟨b, hb⟩ : ∃ b, b = w.heap.size := ⟨_, rfl⟩
  have hbw : w.heap.size ≤ b := by omega
  rw [← hb] at HX1 HR1 ⊢
  generalize (w.alloc (.cells arr 30)).alloc (.cells z8A 64) = w1 at *
  clear hb
  go_upto_region 3 with (first
      | (refine wpList_load_row rfl 30 _ rfl b rfl 30 arr (0, 0) _ HX1.out Tryz.underlying30 rfl (by rw [HAR.out]; kernel_rfl) ?_)
      | (go_at_call 45; (with_reducible refine HBD.out.mono ?_); rintro e w2 ⟨kv, bv, F, rfl, hb2, hl2⟩; have HB2 := Lib.hid hb2; have HL2 := Lib.hid hl2; clear hb2 hl2 HBD))
  rw [← HDE.out] at HB2 HL2
  have hFl : F.length = D.length := by
    have := congrArg List.length HL2.out
    simpa using this
  obtain ⟨ka, kc, hkv, hk1, hk2⟩ := HB2.out.ko.slice
  obtain ⟨ba, bc, hbv, hb1, hb2⟩ := HB2.out.bo.slice
  rw [List.length_map, List.length_map] at hkv
  rw [List.length_map, hFl] at hbv
  have HR2 : Hid (w2.heap[b + 1]? = some (.cells z8A 64 (0, 0))) := (HB2.out.below.block _ (Array.getElem?_eq_some_iff.1 HR1.out).1).trans HR1.out
  have HBw := Lib.hid (HB.out.trans (HB2.out.below.mono HB.out.size))
  subst hkv
  subst hbv
  have HFLn := Lib.hid hFl
  have hDN63 : D.length ≤ 9223372036854775807 := by omega
  clear hk1 hk2 hb1 hb2 hFl
  have HA0 : Hid (Acc w2 w2 (.slice none 0 0) (allN (D.take 0))) := ⟨OwnB.nil _, fun j hj => (by cases hj), Below.refl _ _⟩
  go_wp2_with fail
  go_loopw [5, 16] (fun t i wr => ∃ (k : Nat), k ≤ D.length ∧ i = .int .i64 k ∧ Hid (Acc w2 wr t (allN (D.take k)))) (fun _ i _ => D.length - (intOf i).toNat)
  case atStart => exact ⟨0, by omega, rfl, HA0⟩
  case round =>
    obtain ⟨k, hk, rfl, HA⟩ := hrel
    clear HA0
    by_cases hlt : k < D.length
    · have hltF : k < F.length := by rw [HFLn.out]; exact hlt
      have hkk : k < (((D.map (·.kind)).map (Value.int .i64))).length := by rw [List.length_map, List.length_map]; exact hlt
      have hko := HB2.out.ko
      have hbo := HB2.out.bo
      have el1 : (List.map (Value.int .i64) (D.map (·.kind))).length = D.length := by simp
      have el2 : (F.map (·.v)).length = D.length := by rw [List.length_map, HFLn.out]
      rw [← el1] at hko
      rw [← el2] at hbo
      obtain ⟨kg, rfl, hkg, hkc⟩ := hko.cell hkk
      obtain ⟨bg, rfl, hbg, hbc⟩ := hbo.cell (i := k) (by rw [el2]; exact hlt)
      have e1 : (List.map (Value.int .i64) (D.map (·.kind)))[k] = .int .i64 D[k].kind := by simp
      have e2 : (F.map (·.v))[k]'(by rw [el2]; exact hlt) = F[k].v := by simp
      rw [e1] at hkc
      rw [e2] at hbc
      obtain ⟨ho, hby⟩ := HB2.out.bods F[k] (List.getElem_mem hltF)
      have hlk : F[k].l = pkBody D[k] := by
        have h1 : (F.map (·.l))[k]? = (D.map pkBody)[k]? := by rw [HL2.out]
        rw [List.getElem?_map, List.getElem?_map, List.getElem?_eq_getElem hltF, List.getElem?_eq_getElem hlt] at h1
        exact Option.some.inj h1
      obtain ⟨p, q, hv, hsl, hpx⟩ := ho.sl hby
      rw [hv] at hbc
      rw [hlk] at hsl hbc
      have hdk := HDO.out D[k] (List.getElem_mem hlt)
      have hle := body_len14 hdk.1 hdk.2
      have hc1 := costN_one hlt
      have hn1 := allN_next hlt
      have hal := allN_len (l := D.take k) (fun x hx => HDO.out x (List.mem_of_mem_take hx))
      have hq := HCO.out
      have hkr := hdk.1.kind
      obtain ⟨z, hz⟩ : ∃ z, z = D[k].kind := ⟨_, rfl⟩
      obtain ⟨Bd, hBd⟩ : ∃ Bd, Bd = pkBody D[k] := ⟨_, rfl⟩
      obtain ⟨W, hW⟩ : ∃ W, W = allN (D.take k) := ⟨_, rfl⟩
      rw [← hz] at hkc hn1 hkr
      rw [← hBd] at hsl hbc hn1 hle
      rw [← hW] at hn1 hal HA
      have hWl : W.length + Bd.length ≤ 10000 := by omega
      have e8 := u8_wrap z
      have h8 := u8N_lt z
      obtain ⟨y, hy⟩ : ∃ y, y = u8N z := ⟨_, rfl⟩
      have HN1 : Hid (allN (D.take (k + 1)) = W ++ [y] ++ Bd) := by
        show _ = _
        rw [hn1]; unfold kbN; rw [hy, List.append_assoc]
      rw [← hy] at e8 h8
      obtain ⟨z1, z2⟩ := hkr
      have HSL := Lib.hid hsl
      obtain ⟨wd, hwd⟩ : ∃ wd, wd = wr.drew := ⟨_, rfl⟩
      have HAD : Hid (Acc w2 wd u5 W) := by rw [hwd]; exact HA.out.later (Below.refl _ _).drew
      have hno : ∀ j, j < w2.heap.size → ¬ u5.ownBlock = some j := fun j hj e => by have := HAD.out.low j e; omega
      have hszd : w2.heap.size ≤ wd.heap.size := HAD.out.below.size
      have k23 : ∀ u : KeepW wd (fun j => u5.ownBlock = some j), u.v.cell? ⟨kg, k, none⟩ = some (.int .i64 z) := fun u => (u.cell (Nat.lt_of_lt_of_le hkg hszd) (hno _ hkg)).trans ((HAD.out.below.cell (p := ⟨kg, k, none⟩) hkg).trans hkc)
      have k30 : ∀ u : KeepW wd (fun j => u5.ownBlock = some j), u.v.cell? ⟨bg, k, none⟩ = some (.slice p Bd.length q) := fun u => (u.cell (Nat.lt_of_lt_of_le hbg hszd) (hno _ hbg)).trans ((HAD.out.below.cell (p := ⟨bg, k, none⟩) hbg).trans hbc)
      obtain ⟨Bl, hBl⟩ : ∃ Bl, Bl = Bd.length := ⟨_, rfl⟩
      rw [← hBl] at k30
      have HBL := Lib.hid hBl
      have HWL := Lib.hid hWl
      clear hpx hkc hbc hko hbo el1 el2 e1 e2 ho hby hlk hv hsl hdk hle hc1 hn1 hal hq hz hBd hW hy hno hszd hkk hltF hkg hbg hBl hWl HA
      go_upto_region 6 with fail
      refine growK_begin 13 (fun w' => ∃ u : KeepW wd (fun j => u5.ownBlock = some j), w' = u.v) (by kernel_rfl) ?_
      rw [← hwd]
      clear hwd
      refine growK_take (by kernel_rfl) [0, 1, 2, 3, 4, 5, 8, 9, 10, 11] 4 _ _ (by kernel_rfl) _ (keep_class (Fr.refl _ _)) ?_
      simp only [opsAt, List.getElem?_toArray, List.getElem?_cons_succ, List.getElem?_cons_zero]
      repeat (first | go_big_quiet_step (fail) | quiet_step (fail))
      refine wpQuiet_nil ?_
      clear k23 k30
      have HB5 : Hid (Below wd.heap.size wd (wd.alloc (.cells #[.int .u8 (y : Int)] 5))) := (Below.refl _ _).alloc (Nat.le_refl _) _
      have HY5 := Lib.hid (one_byte14 wd y h8)
      have HA5 := Lib.hid (HAD.out.later HB5.out)
      refine growK_one 6 (by kernel_rfl) (fun K hK => ?_)
      simp only [stepOf, List.getElem?_toArray, List.getElem?_cons_succ, List.getElem?_cons_zero]
      go_simp
      refine hK.out _ _ (keep_class (Fr.of_below HB5.out)) ?_
      clear hK K
      refine growK_one 7 (by kernel_rfl) (fun K hK => ?_)
      simp only [stepOf, List.getElem?_toArray, List.getElem?_cons_succ, List.getElem?_cons_zero]
      rw [if_pos (by rfl)]
      refine wp_addB _ (.tmp 19) (.tmp 25) rfl u5 W rfl HA5.out.own (some ⟨wd.heap.size, 0, none⟩) 1 1 [y] rfl rfl HY5.out (by have := HWL.out; simp; omega) ?_
      intro v6 w6 o6 g6 e6
      have F6 : Hid (Fr (fun j => u5.ownBlock = some j) wd w6) := (Fr.of_below HB5.out).trans (Fr.of_grown g6.out fun b e => e)
      have HA6 := Lib.hid (HA5.out.add o6.out g6.out e6.out)
      refine hK.out _ _ (keep_class F6.out) ?_
      clear hK K o6 g6
      refine growK_one 12 (by kernel_rfl) (fun K hK => ?_)
      simp only [stepOf, List.getElem?_toArray, List.getElem?_cons_succ, List.getElem?_cons_zero]
      rw [if_pos (by rfl)]
      refine wp_addB _ (.tmp 26) (.tmp 30) rfl v6 (W ++ [y]) rfl HA6.out.own p q Bl Bd rfl HBL.out.symm (HSL.out.below HA6.out.below) (by have := HWL.out; simp; omega) ?_
      intro v7 w7 o7 g7 e7
      have F7 : Hid (Fr (fun j => u5.ownBlock = some j) wd w7) := F6.out.over (Fr.of_grown (X := fun j => v6.ownBlock = some j) g7.out fun b e => e) fun j hj => by
        rcases e6.out with h | h
        · rw [h] at hj; exact .inl hj
        · rw [h] at hj
          have := Option.some.inj hj
          have := HB5.out.size
          exact .inr (by omega)
      have HA7 := Lib.hid (HA6.out.add o7.out g7.out e7.out)
      refine hK.out _ _ (keep_class F7.out) ?_
      clear hK K o7 g7 e7 e6 F6 HA6 HA5
      rw [← HN1.out] at HA7
      refine growK_last (by kernel_rfl) (by kernel_rfl) (fun K hK => ?_)
      simp only [stepOf, List.getElem?_toArray, List.getElem?_cons_succ, List.getElem?_cons_zero]
      go_simp
      refine hK.out _ _ ?_
      clear hK K F7
      go_wp2_with fail
      go_roundw
      case rel => exact ⟨k + 1, by omega, by go_num, HA7⟩
      case measure => simp [intOf]; omega
    · obtain rfl : k = D.length := by omega
      rw [List.take_length] at HA
      have hal := allN_len HDO.out
      have hco := HCO.out
      have hTb : IsByte (allN D) := by
        intro x hx
        obtain ⟨l, hl, hxl⟩ := List.mem_flatten.1 hx
        obtain ⟨p, hp, rfl⟩ := List.mem_map.1 hl
        unfold kbN at hxl
        rcases List.mem_append.1 hxl with h | h
        · rw [List.mem_singleton.1 h]; exact u8N_lt _
        · exact body_isByte (HDO.out p hp).1 x h
      have hnm : nameS S = (dgN (allN D)).take 8 := HNS.out
      obtain ⟨T, hT⟩ : ∃ T, T = allN D := ⟨_, rfl⟩
      rw [← hT] at hal hTb HA hnm
      have hTl : T.length ≤ 10000 := by omega
      obtain ⟨ta, tc, hv, hsl, hpx⟩ := HA.out.own.sl hTb
      subst hv
      have HDG := Lib.hid (refDigest_sl ta tc T wr hsl (by omega))
      obtain ⟨G, hG⟩ : ∃ G, G = dgN T := ⟨_, rfl⟩
      have hGl : G.length = 32 := by rw [hG, dgN_len]
      have hGb : IsByte G := by rw [hG]; exact dgN_byte T
      rw [← hG] at HDG hnm
      have HGB := Lib.hid hGb
      have HNM := Lib.hid hnm
      have HGL := Lib.hid hGl
      have HBr := Lib.hid (HBw.out.trans (HA.out.below.mono HBw.out.size))
      have HRr : Hid (wr.heap[b + 1]? = some (.cells z8A 64 (0, 0))) := (HA.out.below.block _ (Array.getElem?_eq_some_iff.1 HR2.out).1).trans HR2.out
      obtain ⟨GA, hGA⟩ : ∃ GA, GA = rowArr 32 (vOf G) := ⟨_, rfl⟩
      have HGA := Lib.hid hGA
      rw [← hGA] at HDG
      have HGs : Hid (GA.size = 32) := by show _ = _; rw [hGA, rowArr_size]
      have HG1 : Hid (GA.all (·.oneCell') = true) := by show _ = _; rw [hGA]; exact oneCell_v _ 32
      have htl := hsl.lt
      have htc : tc ≤ 9223372036854775807 := by have := hsl.most; unfold maxLen at this; omega
      clear hpx hal hco hTb hnm hT hsl hG hGl hGb hGA HA
      go_upto_region 9 with (first
        | (go_at_call 39; (with_reducible refine HDG.out.mono ?_); rintro e w6 ⟨rfl, b6⟩; have HB6 := Lib.hid b6; clear b6 HDG; have HALL : Hid (∀ c : Array Value, (w6.alloc (.cells c 50)).heap[w6.heap.size]? = some (.cells c 50 (0, 0))) := (fun c => heap_alloc_last w6 _); have HALB : Hid (∀ c : Array Value, Below w6.heap.size w6 (w6.alloc (.cells c 50))) := (fun c => (Below.refl _ _).alloc (Nat.le_refl _) _))
        | (refine wpList_store_arr rfl 50 _ _ rfl w6.heap.size GA rfl rfl 50 _ (HALL.out _) (by rw [HGs.out]; kernel_rfl) (by rw [HGs.out]; rfl) HG1.out ?_; intro w7 HC7 hf7; have HB67 : Hid (Below w6.heap.size w6 w7) := (HALB.out _).trans (hf7.out.below (HALB.out _).size (fun k hk e => by omega)); clear hf7 HALL HALB))
      obtain ⟨db, hdb⟩ : ∃ db, db = w6.heap.size := ⟨_, rfl⟩
      rw [← hdb] at HC7 ⊢
      have HB7 := Lib.hid ((HBr.out.trans (HB6.out.mono HBr.out.size)).trans (HB67.out.mono (HBr.out.trans (HB6.out.mono HBr.out.size)).size))
      have hb17 : b + 1 < w6.heap.size := Nat.lt_of_lt_of_le (Array.getElem?_eq_some_iff.1 HRr.out).1 HB6.out.size
      have HR7 : Hid (w7.heap[b + 1]? = some (.cells z8A 64 (0, 0))) := ((HB67.out.block _ hb17).trans (HB6.out.block _ (Array.getElem?_eq_some_iff.1 HRr.out).1)).trans HRr.out
      clear hdb HB67 HB6 HRr HBr
      go_upto_region 10 with fail
      change Code.wp _ _ _ _ (w7.alloc (.cells z8A 64))
      have HB78 : Hid (Below w7.heap.size w7 (w7.alloc (.cells z8A 64))) := (Below.refl _ _).alloc (Nat.le_refl _) _
      have HZ8 : Hid ((w7.alloc (.cells z8A 64)).heap[w7.heap.size]? = some (.cells (rowArr 8 fun _ => .int .u8 0) 64 (0, 0))) := heap_alloc_last w7 _
      have hdb7 : db < w7.heap.size := (Array.getElem?_eq_some_iff.1 HC7.out).1
      have HC8 : Hid ((w7.alloc (.cells z8A 64)).heap[db]? = some (.cells GA 50 (0, 0))) := (HB78.out.block _ hdb7).trans HC7.out
      have HR8 : Hid ((w7.alloc (.cells z8A 64)).heap[b + 1]? = some (.cells z8A 64 (0, 0))) := (HB78.out.block _ (Array.getElem?_eq_some_iff.1 HR7.out).1).trans HR7.out
      have HB8 : Hid (Below w.heap.size w (w7.alloc (.cells z8A 64))) := HB7.out.trans (HB78.out.mono HB7.out.size)
      have hob1 : b + 1 < w7.heap.size := (Array.getElem?_eq_some_iff.1 HR7.out).1
      generalize w7.alloc (.cells z8A 64) = w8 at *
      obtain ⟨ob, hob⟩ : ∃ ob, ob = w7.heap.size := ⟨_, rfl⟩
      rw [← hob] at HZ8 hob1
      rw [← hob]
      have hwob : w.heap.size ≤ ob := by omega
      clear hob HB78 HC7 HR7 HB7 hdb7 hb17
      obtain ⟨wd, hwd⟩ : ∃ wd, wd = w8.drew := ⟨_, rfl⟩
      have hrow : Row w8 ob 64 8 8 (fun _ => .int .u8 0) := Row.of_whole HZ8.out
      have HRW : Hid (Row wd ob 64 8 8 (fun _ => .int .u8 0)) := by rw [hwd]; exact hrow
      have HCD : Hid (wd.heap[db]? = some (.cells GA 50 (0, 0))) := by rw [hwd]; exact HC8.out
      have HRD : Hid (wd.heap[b + 1]? = some (.cells z8A 64 (0, 0))) := by rw [hwd]; exact HR8.out
      have HBD : Hid (Below w.heap.size w wd) := by rw [hwd]; exact HB8.out.drew
      have hq8 : (G.take 8).length = 8 := by rw [List.length_take, HGL.out]; rfl
      have HSL : Hid (Sl wd (some ⟨db, 0, none⟩) 32 (G.take 8)) := by
        refine ⟨fun x hx => HGB.out x (List.mem_of_mem_take hx), by rw [hq8]; omega, by unfold maxLen; omega, fun e => (by cases e), .inr ⟨db, 0, rfl, fun i hi => ?_⟩⟩
        have hi8 : i < 8 := by rw [hq8] at hi; exact hi
        rw [cell_of_block HCD.out, HGA.out, Nat.zero_add]
        have hi32 : i < 32 := by omega
        simp only [rowArr, List.getElem?_toArray, List.getElem?_map, List.getElem?_range hi32, Option.map_some]
        rw [vOf_eq G i (by rw [HGL.out]; exact hi32)]
        simp
      have HQ8 := Lib.hid hq8
      clear hrow hq8 HZ8 HC8 HR8 HB8
      refine growK_begin 2 (fun w' => ∃ u : KeepW wd (fun _ => False), w' = u.v) (by kernel_rfl) ?_
      rw [← hwd]
      clear hwd
      refine growK_take (by kernel_rfl) [0, 1] 1 _ _ (by kernel_rfl) _ (keep_class (Fr.refl _ _)) ?_
      simp only [opsAt, List.getElem?_toArray, List.getElem?_cons_succ, List.getElem?_cons_zero]
      repeat (first | go_big_quiet_step (fail) | quiet_step (fail))
      refine wpQuiet_nil ?_
      refine growK_last (by kernel_rfl) (by kernel_rfl) (fun K hK => ?_)
      simp only [stepOf, List.getElem?_toArray, List.getElem?_cons_succ, List.getElem?_cons_zero]
      rw [if_pos (by rfl)]
      refine wp_copyB _ (.tmp 35) (.tmp 36) rfl ob 0 8 8 8 8 8 (fun _ => .int .u8 0) (vOf (G.take 8)) 64 rfl (some ⟨db, 0, none⟩) 32 8 (G.take 8) rfl HQ8.out HRW.out HSL.out (by rw [HQ8.out]; exact Nat.le_refl _) (by omega) (Nat.le_refl _) (fun j hj => .inl ⟨Nat.zero_le _, by rw [HQ8.out]; omega, rfl⟩) ?_
      intro w9 hr9 hf9
      have HR9 := hr9
      have HB9 : Hid (Below w.heap.size w w9) := HBD.out.trans (hf9.out.below HBD.out.size fun j hj e => by omega)
      have HZ9 : Hid (w9.heap[b + 1]? = some (.cells z8A 64 (0, 0))) := (hf9.out.block _ (Array.getElem?_eq_some_iff.1 HRD.out).1 (by omega)).trans HRD.out
      refine hK.out _ _ ?_
      clear hK K hr9 hf9 HRW HSL HCD HRD HBD
      rw [← HNM.out] at HR9
      obtain ⟨NA, hNA⟩ : ∃ NA, NA = rowArr 8 (vOf (nameS S)) := ⟨_, rfl⟩
      have VN : Hid (rowArr 8 (vOf (nameS S)) = NA) := hNA.symm
      have HNs : Hid (NA.size = 8) := by show _ = _; rw [hNA, rowArr_size]
      have HN1 : Hid (NA.all (·.oneCell') = true) := by show _ = _; rw [hNA]; exact oneCell_v _ 8
      have HCN : Hid (∀ j, j < 8 → w9.cell? ⟨ob, 0 + j, none⟩ = some (vOf (nameS S) j)) := fun j hj => by rw [Nat.zero_add]; exact HR9.out.cell j hj
      clear hNA
      go_wp2_with (first
        | (refine wpList_load_v (by rfl) 64 _ rfl ob 0 8 _ NA VN.out rfl _ HCN.out Tryz.underlying64 rfl (by kernel_rfl) ?_)
        | (refine wpList_store_arr rfl 64 _ _ rfl (b + 1) NA rfl rfl 64 _ HZ9.out (by rw [HNs.out]; kernel_rfl) (by rw [HNs.out]; rfl) HN1.out ?_; intro w10 HC10 hf10; have HB10 : Hid (Below w.heap.size w w10) := HB9.out.trans (hf10.out.below HB9.out.size (fun k hk e => by omega)); clear hf10))
      have HRR : Hid (PQ (.returned (.agg NA)) w10) := by
        show PQ _ _
        rw [HPQ.out]
        exact ⟨by rw [VN.out], HB10.out⟩
      exact bodyPost_ret (v := .agg NA) (results_cell_row rfl _ _ (b + 1) 64 NA (0, 0) _ rfl HC10.out Tryz.underlying64 rfl (by rw [HNs.out]; kernel_rfl)) rfl HRR.out
end Go.Proofs.YtfgaohilpbocbaaGreatDoor
end

section
namespace Go.Proofs.YtfgaohilpbocbaaGreatDoor
open Go.ChangeShapes Go.WideShapes Go.ChangeAt Go.RowKit Go.Joins
set_option linter.unusedVariables false

def idxN (nm : List Nat) (l : List Pk) : List Nat := (l.map fun p => bytesN nm p.kind (pkBody p)).flatten
theorem idxN_next {nm : List Nat} {l : List Pk} {k : Nat} (h : k < l.length) : idxN nm (l.take (k + 1)) = idxN nm (l.take k) ++ bytesN nm l[k].kind (pkBody l[k]) := by
  unfold idxN
  rw [List.take_succ_eq_append_getElem h, List.map_append, List.flatten_append]
  simp
theorem idxN_len {nm : List Nat} (h8 : nm.length = 8) {l : List Pk} (h : ∀ p ∈ l, PkIn p ∧ pkOk p) : (idxN nm l).length ≤ 49 * l.length + costN l := by
  induction l with
  | nil => simp [idxN, costN]
  | cons p l ih =>
    have h1 := ih fun q hq => h q (by simp [hq])
    have h2 := body_len14 (h p (by simp)).1 (h p (by simp)).2
    have h3 := bytes_len h8 p.kind (pkBody p)
    unfold idxN costN at h1 ⊢
    simp only [List.map_cons, List.flatten_cons, List.length_append, List.sum_cons, List.length_cons] at h1 ⊢
    omega
theorem bytesN_byte {nm : List Nat} {z : Int} {b : List Nat} (hn : IsByte nm) (hb : IsByte b) : IsByte (bytesN nm z b) := by
  unfold bytesN
  have hk : IsByte (kbN z b) := fun x hx => by
    unfold kbN at hx
    rcases List.mem_append.1 hx with h | h
    · rw [List.mem_singleton.1 h]; exact u8N_lt _
    · exact hb x h
  intro x hx
  simp only [List.mem_append] at hx
  rcases hx with (((h | h) | h) | h) | h
  · simp only [List.mem_cons, List.mem_nil_iff, or_false] at h; omega
  · exact wideN_byte _ _ x h
  · exact hn x h
  · exact dgN_byte _ x h
  · exact hk x h
theorem dirS_bytes (S : St) : ((dirS S).map pkBytes).flatten = idxN (nameS S) (dirTo S S.files.length) := by
  unfold dirS idxN
  rw [List.map_map]
  rfl
end Go.Proofs.YtfgaohilpbocbaaGreatDoor
end

section
namespace Go.Proofs.YtfgaohilpbocbaaGreatDoor
open Go.ChangeShapes Go.WideShapes Go.ChangeAt Go.RowKit Go.Joins
set_option linter.unusedVariables false

theorem begins_small {l : List Nat} {q : Pk} {n : Nat} (h : Begins l q n) {m : Nat} (hm : l.length ≤ m) : q.file.name.length < 256 ∧ q.sums.length ≤ m ∧ q.data.length ≤ 256 ∧ (pkBody q).length ≤ m := by
  obtain ⟨hi, ho, hn, r, e⟩ := h
  have hl : (pkBytes q).length ≤ m := by
    have := congrArg List.length e
    rw [List.length_append] at this
    omega
  unfold pkBytes at hl
  rw [bytes_len hi.set8] at hl
  refine ⟨?_, ?_, ?_, by omega⟩
  · rcases ho with o | o | o | o
    · rw [o.2.2.2.2.2.1]; simp [zFil]
    · exact o.2.2.2.1
    · rw [o.2.2.1]; simp [zFil]
    · rw [o.2.2.1]; simp [zFil]
  · rcases ho with o | o | o | o
    · rw [o.2.2.2.2.2.2.1]; simp
    · rw [o.2.2.2.2.2.2.1]; simp
    · unfold pkBody at hl
      rw [if_neg (by rw [o.1]; decide), if_neg (by rw [o.1]; decide), if_pos o.1] at hl
      unfold sumsN at hl
      rw [List.length_append, List.length_append, wideN_len, sums_len hi.sums] at hl
      simp only [List.length_cons, List.length_nil] at hl
      omega
    · rw [o.2.2.2.2.1]; simp
  · rcases ho with o | o | o | o
    · rw [o.2.2.2.2.2.2.2.2]; simp
    · rw [o.2.2.2.2.2.2.2.2]; simp
    · rw [o.2.2.2.1.2]; simp
    · exact o.2.2.2.2.2.2
theorem begins_sums {l : List Nat} {q : Pk} {n : Nat} (h : Begins l q n) {m : Nat} (hm : l.length ≤ m) : 38 * q.sums.length ≤ m := by
  obtain ⟨hi, ho, hn, r, e⟩ := h
  have hl : (pkBytes q).length ≤ m := by
    have := congrArg List.length e
    rw [List.length_append] at this
    omega
  unfold pkBytes at hl
  rw [bytes_len hi.set8] at hl
  rcases ho with o | o | o | o
  · rw [o.2.2.2.2.2.2.1]; simp
  · rw [o.2.2.2.2.2.2.1]; simp
  · unfold pkBody at hl
    rw [if_neg (by rw [o.1]; decide), if_neg (by rw [o.1]; decide), if_pos o.1] at hl
    unfold sumsN at hl
    rw [List.length_append, List.length_append, wideN_len, sums_len hi.sums] at hl
    simp only [List.length_cons, List.length_nil] at hl
    omega
  · rw [o.2.2.2.2.1]; simp
theorem wideN_isByte (v n : Nat) : IsByte (wideN v n) := wideN_byte n v
theorem pkBody_byte {p : Pk} (hi : PkIn p) (ho : pkOk p) : IsByte (pkBody p) := by
  have hu : ∀ z : Int, u8N z < 256 := u8N_lt
  unfold pkBody
  split
  · unfold mainN
    intro x hx
    simp only [List.mem_append, List.mem_singleton] at hx
    rcases hx with (hx | hx) | hx
    · exact wideN_byte _ _ x hx
    · rw [hx]; exact hu _
    · exact wideN_byte _ _ x hx
  · split
    · unfold fileN
      intro x hx
      simp only [List.mem_append, List.mem_cons, List.not_mem_nil, or_false] at hx
      rcases hx with (((hx | hx) | hx) | hx) | hx
      · rcases hx with hx | hx <;> rw [hx] <;> exact hu _
      · exact hi.file.byte x hx
      · exact wideN_byte _ _ x hx
      · exact hi.file.dgb x hx
      · exact wideN_byte _ _ x hx
    · split
      · unfold sumsN
        intro x hx
        simp only [List.mem_append, List.mem_singleton, List.mem_flatten, List.mem_map] at hx
        rcases hx with (hx | hx) | ⟨y, ⟨z, hz, rfl⟩, hx⟩
        · rw [hx]; exact hu _
        · exact wideN_byte _ _ x hx
        · unfold sumN at hx
          simp only [List.mem_append] at hx
          rcases hx with (hx | hx) | hx
          · exact wideN_byte _ _ x hx
          · exact wideN_byte _ _ x hx
          · exact (hi.sums z hz).2.2.2 x hx
      · unfold symbolN
        intro x hx
        rcases List.mem_append.1 hx with hx | hx
        · exact wideN_byte _ _ x hx
        · exact hi.data x hx
end Go.Proofs.YtfgaohilpbocbaaGreatDoor
end

section
namespace Go.Proofs.YtfgaohilpbocbaaGreatDoor
open Go.ChangeShapes Go.WideShapes Go.ChangeAt Go.RowKit Go.Joins
set_option linter.unusedVariables false

theorem Rw.raise {B C : Nat} {w : World} {a : Option Addr} {cap : Nat} {l : List Nat} (h : Rw B w a cap l) (hc : B ≤ C) : Rw C w a cap l :=
  ⟨h.sl, fun hl p hp => (h.tag hl p hp).imp (fun h => Nat.lt_of_lt_of_le h hc) id⟩
theorem Rs.raise {B C : Nat} {w : World} {a : Option Addr} {cap : Nat} {ls : Rws} (h : Rs B w a cap ls) (hc : B ≤ C) : Rs C w a cap ls :=
  ⟨h.len, h.most, h.none, h.here.imp id fun ⟨b, off, e, hb, hr⟩ => ⟨b, off, e, Nat.lt_of_lt_of_le hb hc, fun i hi => by
    obtain ⟨a', c', e1, e2⟩ := hr i hi
    exact ⟨a', c', e1, e2.raise hc⟩⟩⟩
end Go.Proofs.YtfgaohilpbocbaaGreatDoor
end
