/-
  The law of package peel's Peel, walked: PeelParts.
-/
import Derived.Test.YticppgopblgkbaaPeelLawB
namespace Go.Proofs.Yticppgopblgkbaa
open Go.ChangeShapes Go.WideShapes Go.ChangeAt Go.RowKit Go.Joins
set_option linter.unusedVariables false

set_option maxRecDepth 1000000 in
set_option maxHeartbeats 4000000 in
theorem parts_out (a : Option Addr) (cap : Nat) (es : Eqz) (n : Int) (hn : -9223372036854775808 ≤ n ∧ n ≤ 9223372036854775807) (w : World) (hs : Er w a cap es) (hF : ¬ FewP es ∨ 256 < n) :
    Calls Try.prog 4 #[.slice a es.length cap, .int .i64 n] w (TrueAnd w) := by
  have HS := Lib.hid hs
  have HAW := Lib.hid awake_any
  have HFW := Lib.hid (fun w h => few_any a cap es w h)
  clear hs
  by_cases hf : FewP es
  · have hd : decide (FewP es) = true := decide_eq_true hf
    have hn2 : 256 < n := hF.resolve_left (fun h => h hf)
    have d1 : decide ((256 : Int) < n) = true := decide_eq_true hn2
    rw [hd] at HFW
    clear hF
    go_enter Try.func4, Try.ntmps4
    go_wp2_with fail
    refine (HAW.out w).mono ?_
    rintro e w1 ⟨rfl, b1⟩
    have HB1 := Lib.hid b1
    clear b1
    go_wp2_with fail
    refine (HFW.out w1 (HS.out.below HB1.out)).mono ?_
    rintro e w' ⟨rfl, rfl⟩
    go_wp2_with fail
    refine (HAW.out w1).mono ?_
    rintro e w2 ⟨rfl, b2⟩
    have HB2 := Lib.hid (HB1.out.trans (b2.mono HB1.out.size))
    clear b2
    go_wp2_with fail
    go_ret
    exact ⟨rfl, HB2.out⟩
  · have hd : decide (FewP es) = false := decide_eq_false hf
    rw [hd] at HFW
    clear hF
    go_enter Try.func4, Try.ntmps4
    go_wp2_with fail
    refine (HAW.out w).mono ?_
    rintro e w1 ⟨rfl, b1⟩
    have HB1 := Lib.hid b1
    clear b1
    go_wp2_with fail
    refine (HFW.out w1 (HS.out.below HB1.out)).mono ?_
    rintro e w' ⟨rfl, rfl⟩
    go_wp2_with fail
    refine (HAW.out w1).mono ?_
    rintro e w2 ⟨rfl, b2⟩
    have HB2 := Lib.hid (HB1.out.trans (b2.mono HB1.out.size))
    clear b2
    go_wp2_with fail
    go_ret
    exact ⟨rfl, HB2.out⟩

set_option maxRecDepth 1000000 in
set_option maxHeartbeats 4000000 in
theorem parts_bad (a : Option Addr) (cap : Nat) (es : Eqz) (n : Int) (hn : -9223372036854775808 ≤ n ∧ n ≤ 9223372036854775807) (w : World) (hs : Er w a cap es) (hf : FewP es) (hn2 : n ≤ 256) (hR : ¬ RightP es n) :
    Calls Try.prog 4 #[.slice a es.length cap, .int .i64 n] w (TrueAnd w) := by
  have HS := Lib.hid hs
  have HAW := Lib.hid awake_any
  have HFW := Lib.hid (fun w h => few_any a cap es w h)
  have HPB := Lib.hid (fun w h => peel_bad a cap es n hn hR w h)
  have HRD := Lib.hid (fun w h => refRight_any a cap es n hn w h)
  rw [show decide (FewP es) = true from decide_eq_true hf] at HFW
  rw [show decide (RightP es n) = false from decide_eq_false hR] at HRD
  have d1 : decide ((256 : Int) < n) = false := decide_eq_false (by omega)
  clear hs hf hR
  go_enter Try.func4, Try.ntmps4
  go_wp2_with fail
  refine (HAW.out w).mono ?_
  rintro e w1 ⟨rfl, b1⟩
  have HB1 := Lib.hid b1
  clear b1
  go_wp2_with fail
  refine (HFW.out w1 (HS.out.below HB1.out)).mono ?_
  rintro e w' ⟨rfl, rfl⟩
  go_wp2_with fail
  refine (HPB.out w1 (HS.out.below HB1.out)).mono ?_
  rintro e w2 ⟨rfl, b2⟩
  have HB2 := Lib.hid ((HB1.out.trans (b2.mono HB1.out.size)).alloc (Nat.le_trans HB1.out.size b2.size) (.cells #[.slice none 0 0, .slice none 0 0, .slice none 0 0] 29))
  clear b2
  go_wp2_with fail
  refine (HRD.out _ (HS.out.below HB2.out)).mono ?_
  rintro e w3 ⟨rfl, b3⟩
  have HB3 := Lib.hid (HB2.out.trans (b3.mono HB2.out.size))
  clear b3
  go_wp2_with fail
  go_ret
  exact ⟨rfl, HB3.out⟩

/-- Where the order's slices are told, whatever becomes of block T. -/
structure LawO (W : World) (T O : Nat) (pa : Option Addr) (pn pc : Nat) (ha : Option Addr) (hn hc : Nat) (la : Option Addr) (ln lc : Nat) : Prop where
  one : ∀ wr, Fr (fun b => b = T) W wr → wr.cell? ⟨O, 0, none⟩ = some (.slice pa pn pc)
  two : ∀ wr, Fr (fun b => b = T) W wr → wr.cell? ⟨O, 1, none⟩ = some (.slice ha hn hc)
  three : ∀ wr, Fr (fun b => b = T) W wr → wr.cell? ⟨O, 2, none⟩ = some (.slice la ln lc)
theorem cntK_le (base : Nat → Nat) (l : List Nat) (k x : Nat) : cntK base l k x ≤ base x + l.length := by
  unfold cntK
  have h1 : (l.take k).count x ≤ (l.take k).length := List.count_le_length
  rw [List.length_take] at h1
  omega
/-- What stays while it is counted, and the counts so far. -/
structure CntSt (W wr : World) (T n : Nat) (f : Nat → Nat) : Prop where
  row : Row wr T 3 n n (nV f)
  fr : Fr (fun b => b = T) W wr
theorem CntSt.step {W wr : World} {T n : Nat} {f f' : Nat → Nat} (h : CntSt W wr T n f) {y c : Nat} (hy : y < n) (hc : f' y = c) (hf : ∀ x, x ≠ y → f' x = f x) : CntSt W (wr.setCell ⟨T, y, none⟩ (.int .i64 (c : Int))) T n f' := by
  refine ⟨h.row.set_eq y hy _ fun j hj => ?_, h.fr.set (p := ⟨T, y, none⟩) (fun _ => rfl) _⟩
  unfold nV
  by_cases e : j = y
  · rw [if_pos e, e, hc]
  · rw [if_neg e, hf j e]

set_option maxRecDepth 1000000 in
set_option maxHeartbeats 16000000 in
theorem parts_good (a : Option Addr) (cap : Nat) (es : Eqz) (n : Nat) (w : World) (hs : Er w a cap es) (hf : FewP es) (hR : RightP es (n : Int)) :
    Calls Try.prog 4 #[.slice a es.length cap, .int .i64 (n : Int)] w (TrueAnd w) := by
  have HS := Lib.hid hs
  have HAW := Lib.hid awake_any
  have HFW := Lib.hid (fun w h => few_any a cap es w h)
  have HPG := Lib.hid (fun w h => peel_good a cap es n hR w h)
  have hn : n ≤ 256 := by have := hR.2.1; omega
  rw [show decide (FewP es) = true from decide_eq_true hf] at HFW
  have d1 : decide ((256 : Int) < (n : Int)) = false := decide_eq_false (by omega)
  have hmk := make_ints n (by omega)
  clear hs hf hR
  go_enter Try.func4, Try.ntmps4
  go_wp2_with fail
  refine (HAW.out w).mono ?_
  rintro e w1 ⟨rfl, b1⟩
  have HB1 := Lib.hid b1
  clear b1
  go_wp2_with fail
  refine (HFW.out w1 (HS.out.below HB1.out)).mono ?_
  rintro e w' ⟨rfl, rfl⟩
  go_wp2_with fail
  refine (HPG.out w1 (HS.out.below HB1.out)).mono ?_
  rintro e w2 ⟨pv, hv, lv, P, H, L, rfl, o1, o2, o3, hnd, hmem, b2⟩
  obtain ⟨pa, pc, rfl, p1, p2, p3⟩ := ownV_cells o1
  obtain ⟨ha, hc, rfl, h1, h2, h3⟩ := ownN_cells o2
  obtain ⟨la, lc, rfl, l1, l2, l3⟩ := ownN_cells o3
  have HP3 := Lib.hid p3
  have HH3 := Lib.hid h3
  have HL3 := Lib.hid l3
  have HND := Lib.hid hnd
  have HMEM := Lib.hid hmem
  have hle := nodup_lt n hnd (fun x hx => (hmem x).1 hx)
  simp only [List.length_append, List.length_map] at hle
  have HB2 := Lib.hid (HB1.out.trans (b2.mono HB1.out.size))
  clear o1 o2 o3 b2 p3 h3 l3 hnd hmem HPG HFW HAW
  go_wp2_with fail
  obtain ⟨O, hO⟩ : ∃ O, O = w2.heap.size := ⟨_, rfl⟩
  obtain ⟨W, hW⟩ : ∃ W, W = ((w2.alloc (.cells #[.slice pa P.length pc, .slice ha H.length hc, .slice la L.length lc] 29)).alloc (.cells (rowArr n (nV fun _ => 0)) 3)) := ⟨_, rfl⟩
  obtain ⟨T, hT⟩ : ∃ T, T = w2.heap.size + 1 := ⟨_, rfl⟩
  have HBW : Hid (Below w.heap.size w W) := by rw [hW]; exact (HB2.out.alloc HB2.out.size _).alloc (by have := HB2.out.size; simp; omega) _
  have HLOW : Hid (Below w2.heap.size w2 W) := by rw [hW]; exact ((Below.refl _ w2).alloc (Nat.le_refl _) _).alloc (by simp) _
  have hOT : O ≠ T := by omega
  have hwT : w.heap.size ≤ T := by have := HB2.out.size; omega
  have HORD : Hid (W.heap[O]? = some (.cells #[.slice pa P.length pc, .slice ha H.length hc, .slice la L.length lc] 29 (0, 0))) := by
    rw [hW, hO]
    exact (Below.heap_alloc _ _ _ (by simp)).trans (heap_alloc_last w2 _)
  have HROW : Hid (Row W T 3 n n (nV fun _ => 0)) := by
    rw [hW]
    exact Row.new_whole _ _ _ _ _ _ (by rw [hT]; simp) rfl
  have hOW : O < W.heap.size := by rw [hW, hO]; simp; omega
  have HC : Hid (LawO W T O pa P.length pc ha H.length hc la L.length lc) := by
    have key : ∀ wr, Fr (fun b => b = T) W wr → wr.heap[O]? = _ := fun wr k => (k.block O hOW fun e => hOT e).trans HORD.out
    exact ⟨fun wr k => by rw [cell_of_block (key wr k)]; rfl, fun wr k => by rw [cell_of_block (key wr k)]; rfl, fun wr k => by rw [cell_of_block (key wr k)]; rfl⟩
  have HRP : Hid (∀ i, (hi : i < P.length) → ∃ b, pa = some ⟨b, 0, none⟩ ∧ b ≠ T ∧ ∀ wr, Fr (fun b => b = T) W wr → wr.cell? ⟨b, i * 2 + 1, none⟩ = some (.int .i64 ((P[i].2 : Nat) : Int))) := fun i hi => by
    obtain ⟨b, e, hb, hcb⟩ := HP3.out i hi
    exact ⟨b, e, by omega, fun wr k => (World.cell?_of_block (a := ⟨b, i * 2 + 1, none⟩) ((k.block b (by have := HLOW.out.size; omega) (by omega)).trans (HLOW.out.block b hb))).trans hcb⟩
  have HRH : Hid (∀ i, (hi : i < H.length) → ∃ b, ha = some ⟨b, 0, none⟩ ∧ b ≠ T ∧ ∀ wr, Fr (fun b => b = T) W wr → wr.cell? ⟨b, i, none⟩ = some (.int .i64 ((H[i] : Nat) : Int))) := fun i hi => by
    obtain ⟨b, e, hb, hcb⟩ := HH3.out i hi
    exact ⟨b, e, by omega, fun wr k => (World.cell?_of_block (a := ⟨b, i, none⟩) ((k.block b (by have := HLOW.out.size; omega) (by omega)).trans (HLOW.out.block b hb))).trans hcb⟩
  have HRL : Hid (∀ i, (hi : i < L.length) → ∃ b, la = some ⟨b, 0, none⟩ ∧ b ≠ T ∧ ∀ wr, Fr (fun b => b = T) W wr → wr.cell? ⟨b, i, none⟩ = some (.int .i64 ((L[i] : Nat) : Int))) := fun i hi => by
    obtain ⟨b, e, hb, hcb⟩ := HL3.out i hi
    exact ⟨b, e, by omega, fun wr k => (World.cell?_of_block (a := ⟨b, i, none⟩) ((k.block b (by have := HLOW.out.size; omega) (by omega)).trans (HLOW.out.block b hb))).trans hcb⟩
  have HT0 : Hid (CntSt W W T n (cntK (fun _ => 0) (P.map Prod.snd) 0)) := ⟨by rw [cntK_start]; exact HROW.out, Fr.refl _ _⟩
  rw [← hW, ← hT, ← hO]
  clear hW hT hO HORD HROW HLOW HP3 HH3 HL3 hOW HB2
  go_loopw [41] (fun i wr => ∃ k : Nat, k ≤ P.length ∧ i = .int .i64 k ∧ Hid (CntSt W wr T n (cntK (fun _ => 0) (P.map Prod.snd) k))) (fun i _ => P.length - (intOf i).toNat)
  case atStart => exact ⟨0, by omega, rfl, HT0⟩
  case round =>
    obtain ⟨k, hk, rfl, HT⟩ := hrel
    clear HT0
    by_cases hlt : k < P.length
    · have hkL : k < (P.map Prod.snd).length := by rw [List.length_map]; exact hlt
      obtain ⟨b, rfl, hbl, hbc⟩ := HRP.out k hlt
      have xr := hbc _ HT.out.fr
      have xo := HC.out.one _ HT.out.fr
      have hyn : P[k].2 < n := (HMEM.out _).1 (by exact List.mem_append_left _ (List.mem_append_left _ (List.mem_map_of_mem (List.getElem_mem hlt))))
      have HN : Hid (∀ x, cntK (fun _ => 0) (P.map Prod.snd) (k + 1) x = if x = P[k].2 then cntK (fun _ => 0) (P.map Prod.snd) k P[k].2 + 1 else cntK (fun _ => 0) (P.map Prod.snd) k x) := fun x => by
        have := cntK_next (fun _ => 0) hkL x
        simpa using this
      have hcb : cntK (fun _ => 0) (P.map Prod.snd) k P[k].2 ≤ 1000 := by
        have h1 := cntK_le (fun _ => 0) (P.map Prod.snd) k P[k].2
        simp only [List.length_map] at h1
        omega
      generalize P[k].2 = y at *
      have xt := HT.out.row.cell y hyn
      have zt := HT.out.row.loose y
      unfold nV at xt
      have hyz : (y : Int) < (n : Int) := by omega
      have HTN : Hid (CntSt W (wr.setCell ⟨T, y, none⟩ (.int .i64 ((cntK (fun _ => 0) (P.map Prod.snd) k y : Int) + 1))) T n (cntK (fun _ => 0) (P.map Prod.snd) (k + 1))) :=
        HT.out.step (c := cntK (fun _ => 0) (P.map Prod.snd) k y + 1) hyn (by rw [HN.out, if_pos rfl]) fun x hx => by rw [HN.out, if_neg hx]
      generalize cntK (fun _ => 0) (P.map Prod.snd) k y = c at *
      clear HN HT hbc
      go_wp2_with fail
      go_roundw
      case rel => exact ⟨k + 1, by omega, by go_num, HTN⟩
      case measure => simp [intOf]; omega
    · obtain rfl : k = P.length := by omega
      have HT1 : Hid (CntSt W wr T n (cntK (cntK (fun _ => 0) (P.map Prod.snd) P.length) H 0)) := by rw [cntK_start]; exact HT.out
      clear HT
      obtain ⟨B1, hB1⟩ : ∃ B1, B1 = cntK (fun _ => 0) (P.map Prod.snd) P.length := ⟨_, rfl⟩
      rw [← hB1] at HT1
      have HBA : Hid (∀ x, B1 x ≤ P.length) := fun x => by rw [hB1]; have := cntK_le (fun _ => 0) (P.map Prod.snd) P.length x; simp only [List.length_map] at this; omega
      have HE1 : Hid (∀ x, B1 x = (P.map Prod.snd).count x) := fun x => by rw [hB1]; have := cntK_end (fun _ => 0) (P.map Prod.snd) x; rw [List.length_map] at this; omega
      clear hB1
      have xo := HC.out.two _ HT1.out.fr
      obtain ⟨W1, rfl⟩ : ∃ x, x = wr := ⟨_, rfl⟩
      go_wp2_with fail
      clear xo
      go_loopw [59] (fun i wr => ∃ k : Nat, k ≤ H.length ∧ i = .int .i64 k ∧ Hid (CntSt W wr T n (cntK B1 H k))) (fun i _ => H.length - (intOf i).toNat)
      case atStart => exact ⟨0, by omega, rfl, HT1⟩
      case round =>
        obtain ⟨k, hk, rfl, HT⟩ := hrel
        clear HT1
        by_cases hlt : k < H.length
        · have hkL : k < H.length := by exact hlt
          obtain ⟨b, rfl, hbl, hbc⟩ := HRH.out k hlt
          have xr := hbc _ HT.out.fr
          have xo := HC.out.two _ HT.out.fr
          have hyn : H[k] < n := (HMEM.out _).1 (by exact List.mem_append_left _ (List.mem_append_right _ (List.getElem_mem hlt)))
          have HN : Hid (∀ x, cntK B1 H (k + 1) x = if x = H[k] then cntK B1 H k H[k] + 1 else cntK B1 H k x) := fun x => by
            have := cntK_next B1 hkL x
            exact this
          have hcb : cntK B1 H k H[k] ≤ 1000 := by
            have h1 := cntK_le B1 H k H[k]
            have h2 := HBA.out H[k]
            omega
          generalize H[k] = y at *
          have xt := HT.out.row.cell y hyn
          have zt := HT.out.row.loose y
          unfold nV at xt
          have hyz : (y : Int) < (n : Int) := by omega
          have HTN : Hid (CntSt W (wr.setCell ⟨T, y, none⟩ (.int .i64 ((cntK B1 H k y : Int) + 1))) T n (cntK B1 H (k + 1))) :=
            HT.out.step (c := cntK B1 H k y + 1) hyn (by rw [HN.out, if_pos rfl]) fun x hx => by rw [HN.out, if_neg hx]
          generalize cntK B1 H k y = c at *
          clear HN HT hbc
          go_wp2_with fail
          go_roundw
          case rel => exact ⟨k + 1, by omega, by go_num, HTN⟩
          case measure => simp [intOf]; omega
        · obtain rfl : k = H.length := by omega
          have HT2 : Hid (CntSt W wr T n (cntK (cntK B1 H H.length) L 0)) := by rw [cntK_start]; exact HT.out
          clear HT
          obtain ⟨B2, hB2⟩ : ∃ B2, B2 = cntK B1 H H.length := ⟨_, rfl⟩
          rw [← hB2] at HT2
          have HBB : Hid (∀ x, B2 x ≤ P.length + H.length) := fun x => by rw [hB2]; have := cntK_le B1 H H.length x; have := HBA.out x; omega
          have HE2 : Hid (∀ x, B2 x = (P.map Prod.snd).count x + H.count x) := fun x => by rw [hB2, cntK_end, HE1.out]
          clear hB2 HBA HE1
          have HBA := HBB
          clear HBB
          have xo := HC.out.three _ HT2.out.fr
          obtain ⟨W2, rfl⟩ : ∃ x, x = wr := ⟨_, rfl⟩
          go_wp2_with fail
          clear xo
          go_loopw [76] (fun i wr => ∃ k : Nat, k ≤ L.length ∧ i = .int .i64 k ∧ Hid (CntSt W wr T n (cntK B2 L k))) (fun i _ => L.length - (intOf i).toNat)
          case atStart => exact ⟨0, by omega, rfl, HT2⟩
          case round =>
            obtain ⟨k, hk, rfl, HT⟩ := hrel
            clear HT2
            by_cases hlt : k < L.length
            · have hkL : k < L.length := by exact hlt
              obtain ⟨b, rfl, hbl, hbc⟩ := HRL.out k hlt
              have xr := hbc _ HT.out.fr
              have xo := HC.out.three _ HT.out.fr
              have hyn : L[k] < n := (HMEM.out _).1 (by exact List.mem_append_right _ (List.getElem_mem hlt))
              have HN : Hid (∀ x, cntK B2 L (k + 1) x = if x = L[k] then cntK B2 L k L[k] + 1 else cntK B2 L k x) := fun x => by
                have := cntK_next B2 hkL x
                exact this
              have hcb : cntK B2 L k L[k] ≤ 1000 := by
                have h1 := cntK_le B2 L k L[k]
                have h2 := HBA.out L[k]
                omega
              generalize L[k] = y at *
              have xt := HT.out.row.cell y hyn
              have zt := HT.out.row.loose y
              unfold nV at xt
              have hyz : (y : Int) < (n : Int) := by omega
              have HTN : Hid (CntSt W (wr.setCell ⟨T, y, none⟩ (.int .i64 ((cntK B2 L k y : Int) + 1))) T n (cntK B2 L (k + 1))) :=
                HT.out.step (c := cntK B2 L k y + 1) hyn (by rw [HN.out, if_pos rfl]) fun x hx => by rw [HN.out, if_neg hx]
              generalize cntK B2 L k y = c at *
              clear HN HT hbc
              go_wp2_with fail
              go_roundw
              case rel => exact ⟨k + 1, by omega, by go_num, HTN⟩
              case measure => simp [intOf]; omega
            · obtain rfl : k = L.length := by omega
              have HE3 : Hid (∀ x, x < n → cntK B2 L L.length x = 1) := fun x hx => by
                rw [cntK_end, HE2.out]
                have := count_once HND.out x ((HMEM.out x).2 hx)
                rw [List.count_append, List.count_append] at this
                omega
              have HBZ : Hid (Below w.heap.size w wr) := HBW.out.trans (HT.out.fr.below HBW.out.size fun b hb e => by omega)
              have HXT : Hid (∀ k, k < n → wr.cell? ⟨T, k, none⟩ = some (.int .i64 1)) := fun k hk => by
                rw [HT.out.row.cell k hk]
                unfold nV
                rw [HE3.out k hk]
                rfl
              clear HT HE3
              go_wp2_with fail
              go_loop [92] (fun i => ∃ k : Nat, k ≤ n ∧ i = .int .i64 k) (fun i => n - (intOf i).toNat)
              case atStart => exact ⟨0, by omega, rfl⟩
              case round =>
                obtain ⟨k, hk, rfl⟩ := hrel
                by_cases hlt : k < n
                · have xt := HXT.out k hlt
                  have hkz : (k : Int) < (n : Int) := by omega
                  go_wp2_with fail
                  go_round
                  case rel => exact ⟨k + 1, by omega, by go_num⟩
                  case measure => simp [intOf]; omega
                · obtain rfl : k = n := by omega
                  go_wp2_with fail
                  go_ret
                  exact ⟨rfl, HBZ.out⟩

theorem peelParts_walk (a : Option Addr) (cap : Nat) (es : Eqz) (n : Int) (hn : -9223372036854775808 ≤ n ∧ n ≤ 9223372036854775807) (w : World) (hs : Er w a cap es) :
    Calls Try.prog 4 #[.slice a es.length cap, .int .i64 n] w (TrueAnd w) := by
  by_cases hF : ¬ FewP es ∨ 256 < n
  · exact parts_out a cap es n hn w hs hF
  · have hf : FewP es := Classical.byContradiction fun h => hF (.inl h)
    have hn2 : n ≤ 256 := by
      have : ¬ 256 < n := fun h => hF (.inr h)
      omega
    by_cases hR : RightP es n
    · obtain ⟨N, rfl⟩ : ∃ N : Nat, n = (N : Int) := ⟨n.toNat, by have := hR.1; omega⟩
      exact parts_good a cap es N w hs hf hR
    · exact parts_bad a cap es n hn w hs hf hn2 hR
end Go.Proofs.Yticppgopblgkbaa
