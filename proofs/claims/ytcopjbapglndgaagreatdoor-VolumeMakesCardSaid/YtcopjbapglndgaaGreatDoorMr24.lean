/-
  The document's Picks and Row.
  All rows of package precode's numbers.
  Package precode's sum: sources of one length, each times its number.
  Package precode's Parities.
  Package row's Of.
-/
import Derived.Test.YtcopjbapglndgaaGreatDoorMr23
import Derived.Laws.Append
import Derived.Laws.AppendOwn
section
namespace Go.Proofs.YtcopjbapglndgaaGreatDoor
open Go.ChangeShapes Go.WideShapes Go.ChangeAt Go.RowKit Go.Joins
set_option linter.unusedVariables false

theorem Sl.firsts {w : World} {a : Option Addr} {cap : Nat} {l : List Nat} (h : Sl w a cap l) (q : Nat) : Sl w a cap (l.take q) := by
  have hle : (l.take q).length ≤ l.length := by rw [List.length_take]; omega
  refine ⟨fun n hn => h.byte n (List.mem_of_mem_take hn), Nat.le_trans hle h.len, h.most, fun e => ⟨by rw [(h.none e).1, List.take_nil], (h.none e).2⟩, ?_⟩
  rcases h.here with rfl | ⟨b, off, e, hb⟩
  · exact .inl List.take_nil
  · refine .inr ⟨b, off, e, fun i hi => ?_⟩
    rw [hb i (by omega), List.getElem_take]

/-- While places are drawn: the numbers, all else. -/
structure PickAt (W : World) (g n : Nat) (wr : World) (l : List Nat) : Prop where
  low : W.heap.size ≤ g
  row : Row wr g 5 n n (vOf l)
  below : Below W.heap.size W wr
theorem PickAt.set {W : World} {g n : Nat} {w : World} {l : List Nat} (h : PickAt W g n w l) (hl : l.length = n) {k : Nat} (hk : k < n) (v : Nat) : PickAt W g n (w.setCell ⟨g, k, none⟩ (.int .u8 (v : Int))) (l.set k v) :=
  ⟨h.low, h.row.set_at hl hk v, h.below.setCell h.low _⟩

theorem umod (y n : Nat) : ((y : Int).tmod (n : Int) = ((y % n : Nat) : Int)) ∧ ((y : Int) % (n : Int) = ((y % n : Nat) : Int)) :=
  ⟨by rw [Int.tmod_eq_emod_of_nonneg (by omega)]; rfl, rfl⟩

set_option maxRecDepth 100000 in
set_option maxHeartbeats 2000000 in
theorem refPicks_any (k id : Nat) (h1 : 1 ≤ k) (hk : k ≤ 64) (hid : id < 4294967296) (w : World) :
    Calls Tryz.prog 34 #[.int .i64 (k : Int), .int .u32 (id : Int)] w (DrawPost w (numsN k id) (k + (spN k + 2))) := by
  have hsb := spN_bound hk
  have HPAR := Lib.hid (refPar_any k h1 hk w)
  have HPL := Lib.hid (parRows_len k)
  have hsd : seedN k id < 4294967296 := Nat.mod_lt _ (by omega)
  have HSD := Lib.hid (fun w => refSeed_any k id (by omega) hid w)
  have HBG := Lib.hid (fun w => refBegin_any (seedN k id) hsd w)
  have hy := beginN_lt hsd
  have HNX := Lib.hid (fun (x : Nat) (hx : x < 4294967296) (w : World) => refNext_any x hx w)
  have hx1 := nextN_lt hy
  have HN : Hid (numsN k id = drawnN (beginN (seedN k id)) (k + (spN k + 2))) := rfl
  rw [HN.out]
  generalize parRows k = P at *
  generalize spN k = sp at *
  obtain ⟨p, hp⟩ : ∃ p, sp + 2 = p := ⟨_, rfl⟩
  rw [hp] at HPL ⊢
  have hp1 : 3 ≤ p + 1 ∧ p ≤ 11 := by omega
  clear hp hsb HN sp
  generalize beginN (seedN k id) = x at *
  generalize seedN k id = s at *
  obtain ⟨n, hn⟩ : ∃ n, k + p = n := ⟨_, rfl⟩
  have hni : (k : Int) + (p : Int) = (n : Int) := by omega
  have hn1 : 1 ≤ n ∧ n ≤ 100 := by omega
  rw [hn]
  clear hn hp1
  obtain ⟨D, hD, hDn, hDt⟩ := capI_nat (degN (nextN x % 1024)) n hn1.1
  have HDR : Hid (drawnN x n = (drawD (nextN x) n D).2) := by show _ = _; unfold drawnN; rw [hDt]
  have HDG : Hid (∀ w, Calls Tryz.prog 62 #[.int .u64 ((nextN x % 1024 : Nat) : Int), .int .i64 (n : Int)] w fun e w' => e = .returned (.int .i64 (D : Int)) ∧ w = w') := fun w => by
    have := refDegree_any (nextN x % 1024) (n : Int) (Nat.mod_lt _ (by omega)) w
    rw [hD] at this
    exact this
  have HST := Lib.hid (drawD_state hx1 n)
  have HLN := Lib.hid (drawD_len (nextN x) n)
  have HBY := Lib.hid (drawD_byte (nextN x) n)
  have HFR : Hid (∀ d a, d < n → a < n → FreeIn (drawD (nextN x) n d).2 a n) := fun d a hd ha => drawD_free (nextN x) n d a hd ha
  have HD0 : Hid (drawD (nextN x) n 0 = (nextN x, List.replicate n 0)) := rfl
  have HDS : Hid (∀ d, drawD (nextN x) n (d + 1) = stepD n (drawD (nextN x) n d)) := fun d => rfl
  have HN1 := Lib.hid (HNX.out x hy)
  have m1a : ((nextN x : Nat) : Int).tmod 1024 = ((nextN x % 1024 : Nat) : Int) := by rw [Int.tmod_eq_emod_of_nonneg (by omega)]; omega
  have m1b : ((nextN x : Nat) : Int) % 1024 = ((nextN x % 1024 : Nat) : Int) := by omega
  have hm1 := Nat.mod_lt (nextN x) (show 0 < 1024 by omega)
  clear hD hDt
  rw [HDR.out]
  generalize drawD (nextN x) n = S at *
  generalize nextN x = x1 at *
  obtain ⟨d0, hd0⟩ : ∃ d0, x1 % 1024 = d0 := ⟨_, rfl⟩
  rw [hd0] at HDG m1a m1b hm1
  clear HDR hd0
  go_enter Tryz.func34, Tryz.ntmps34
  go_wp2_with fail
  refine HPAR.out.mono ?_
  rintro e w1 ⟨v, rfl, ho, hb⟩
  obtain ⟨va, vc, rfl, -⟩ := ho.rs
  have HB1 := Lib.hid hb
  have hpl := HPL.out
  have hpm : P.length ≤ 100 := by omega
  clear ho hb HPAR
  rw [hpl]
  have hmk := make_row n (by omega) w1
  have HR0 : Hid (PickAt w w1.heap.size n (w1.alloc (.cells (rowArr n zV) 5)) (S 0).2) := by
    rw [HD0.out]
    exact ⟨HB1.out.size, Row.new_whole w1 _ 5 (vOf (List.replicate n 0)) _ _ rfl (zeros_arr n), HB1.out.alloc HB1.out.size _⟩
  have HS0 : Hid ((S 0).1 = x1) := by show _ = _; rw [HD0.out]
  go_wp2_with (first | (go_at_call 61; refine (HSD.out _).mono ?_; rintro e w' ⟨rfl, rfl⟩) | (go_at_call 60; refine (HBG.out _).mono ?_; rintro e w' ⟨rfl, rfl⟩) | (go_at_call 59; refine (HN1.out _).mono ?_; rintro e w' ⟨rfl, rfl⟩))
  refine (HDG.out _).mono ?_
  rintro e w' ⟨rfl, rfl⟩
  generalize w1.heap.size = g at *
  generalize w1.alloc (.cells (rowArr n zV) 5) = w2 at *
  clear hmk HB1 HDG HSD HBG HN1 m1a m1b HD0 hpl hpm HPL
  go_wp2_with fail
  go_loopw [6, 25] (fun xv i wr => ∃ j : Nat, j ≤ D ∧ i = .int .i64 j ∧ xv = .int .u64 (((S j).1 : Nat) : Int) ∧ Hid (PickAt w g n wr (S j).2)) (fun _ i _ => D - (intOf i).toNat)
  case atStart => exact ⟨0, by omega, rfl, by rw [HS0.out], HR0⟩
  case round =>
    obtain ⟨j, hj, rfl, rfl, HK⟩ := hrel
    by_cases hjD : j < D
    · have hy := HST.out j
      have hy1 := nextN_lt hy
      have hy2 := nextN_lt hy1
      have hll := HLN.out j
      have HLB := Lib.hid (HBY.out j)
      have hf0 : nextN (S j).1 % n < n := Nat.mod_lt _ (by omega)
      have HFJ : Hid (FreeIn (S j).2 (nextN (S j).1 % n) n) := HFR.out j _ (by omega) hf0
      have hlt2 := goN_lt (l := (S j).2) n (nextN (S j).1 % n) (by omega)
      have HNXT : Hid (S (j + 1) = (nextN (nextN (S j).1), (S j).2.set (goN (S j).2 (nextN (S j).1 % n) n) (1 + nextN (nextN (S j).1) % 255))) := HDS.out j
      generalize (S j).1 = y at *
      generalize (S j).2 = l at *
      have E1 := Lib.hid (HNX.out y hy)
      obtain ⟨m1, m2⟩ := umod (nextN y) n
      have E2 := Lib.hid (HNX.out (nextN y) hy1)
      have m3 : ((nextN (nextN y) : Nat) : Int).tmod 255 = ((nextN (nextN y) % 255 : Nat) : Int) := by rw [Int.tmod_eq_emod_of_nonneg (by omega)]; omega
      have m4 : ((nextN (nextN y) : Nat) : Int) % 255 = ((nextN (nextN y) % 255 : Nat) : Int) := by omega
      have hz : nextN (nextN y) % 255 < 255 := Nat.mod_lt _ (by omega)
      generalize nextN (nextN y) % 255 = z at *
      generalize nextN (nextN y) = y2 at *
      obtain ⟨R, hR⟩ : ∃ R, goN l (nextN y % n) n = R := ⟨_, rfl⟩
      rw [hR] at HNXT hlt2
      have HGR : Hid (goN l (nextN y % n) n = R) := hR
      clear hR
      generalize nextN y % n = p0 at *
      generalize nextN y = y1 at *
      have hne : ((n : Int) == 0) = false := by rw [beq_eq_false_iff_ne]; omega
      have hne2 : ¬ ((n : Int) = 0) := by omega
      go_wp2_with (go_at_call 59; refine (E1.out _).mono ?_; rintro e w' ⟨rfl, rfl⟩)
      clear m1 m2 E1
      generalize wr = wo at *
      go_loopg [8] n (fun gg i wi => ∃ q : Nat, q < n ∧ i = .int .i64 q ∧ Hid (FreeIn l q gg) ∧ Hid (goN l q gg = R) ∧ wi = wo)
      case atStart => exact ⟨p0, hf0, rfl, HFJ, HGR, rfl⟩
      case round =>
        obtain ⟨q, hq, rfl, HQ, HG, rfl⟩ := hrel
        have hql : q < l.length := by omega
        have hck : wr.cell? ⟨g, q, none⟩ = some (.int .u8 ((l[q] : Nat) : Int)) := by rw [HK.out.row.cell q hq, vOf_eq _ _ hql]
        have hx : l[q] < 256 := HLB.out _ (List.getElem_mem hql)
        obtain ⟨e1, e2⟩ := tmod_two q n
        have hm := Nat.mod_lt (q + 1) (show 0 < n by omega)
        have hpos : 0 < gk := FreeIn.pos HQ.out
        obtain ⟨f, rfl⟩ : ∃ f, gk = f + 1 := ⟨gk - 1, by omega⟩
        have HDD : Hid (l.getD q 0 = l[q]) := getD_get hql
        have HZ : Hid (l[q] = 0 → R = q) := fun e => by
          rw [← HG.out]; unfold goN; rw [if_pos (by rw [HDD.out]; exact e)]
        have HNN : Hid (l[q] ≠ 0 → FreeIn l ((q + 1) % n) f ∧ goN l ((q + 1) % n) f = R) := fun e => by
          have h1 := HQ.out.next hql (by rw [HDD.out]; exact e)
          have h2 := HG.out
          rw [hll] at h1
          refine ⟨h1, ?_⟩
          rw [← h2]
          conv => rhs; unfold goN
          rw [if_neg (by rw [HDD.out]; exact e), hll]
        clear HQ HG HDD
        generalize l[q] = xx at *
        by_cases hx0 : xx = 0
        · have hzx : ((xx : Int) != 0) = false := by subst hx0; rfl
          have HE := Lib.hid (HZ.out hx0)
          have HK5 : Hid (PickAt w g n (wr.setCell ⟨g, q, none⟩ (.int .u8 ((1 + z : Nat) : Int))) (S (j + 1)).2) := by
            have := HK.out.set hll hq (1 + z)
            rw [HNXT.out, HE.out]; exact this
          have HS5 : Hid ((S (j + 1)).1 = y2) := by show _ = _; rw [HNXT.out]
          have hlo := HK.out.row.loose q
          clear HZ HNN hx0 e1 e2 hne hne2
          go_wp2_with (go_at_call 59; refine (E2.out _).mono ?_; rintro e w' ⟨rfl, rfl⟩)
          go_roundw
          case rel => exact ⟨j + 1, by omega, by go_num, by rw [HS5.out], HK5⟩
          case measure => simp [intOf]; omega
        · have hzx : ((xx : Int) != 0) = true := by simp; omega
          have HE := Lib.hid (HNN.out hx0)
          clear HZ HNN hx0
          generalize (q + 1) % n = q2 at *
          go_wp2_with fail
          go_roundg f
          case rel => exact ⟨q2, hm, rfl, HE.out.1, HE.out.2, rfl⟩
          case measure => omega
    · obtain rfl : j = D := by omega
      go_wp2_with fail
      go_ret
      exact ⟨g, rfl, HK.out.row.sl (HLN.out j) (HBY.out j) (by unfold maxLen; omega), HK.out.below⟩

def RRowPost (k : Nat) (l : List Nat) (w : World) (e : Ending) (w' : World) : Prop :=
  ∃ g c, e = .returned (.slice (some ⟨g, 0, none⟩) k c) ∧ Sl w' (some ⟨g, 0, none⟩) c l ∧ Below w.heap.size w w'

set_option maxRecDepth 100000 in
set_option maxHeartbeats 2000000 in
theorem refRow_any (k id : Nat) (h1 : 1 ≤ k) (hk : k ≤ 64) (hid : id < 4294967296) (w : World) :
    Calls Tryz.prog 15 #[.int .i64 (k : Int), .int .u32 (id : Int)] w (RRowPost k (rowN k id) w) := by
  have hsb := spN_bound hk
  have HPI := Lib.hid (refPicks_any k id h1 hk hid w)
  have HPAR := Lib.hid (refPar_any k h1 hk)
  have HPL := Lib.hid (parRows_len k)
  have HPG := Lib.hid (parRows_get k)
  have HPN := Lib.hid (parRow_len k)
  have HNB := Lib.hid (numsN_byte k id)
  have HNL := Lib.hid (numsN_len k id)
  have HTO : Hid (∀ j, (docTo k (numsN k id) j).length = k ∧ IsByte (docTo k (numsN k id) j)) := docTo_ok (by rw [numsN_len]; omega) (numsN_byte k id)
  have HTZ : Hid (docTo k (numsN k id) 0 = (numsN k id).take k) := rfl
  have HTS : Hid (∀ j, docTo k (numsN k id) (j + 1) = plusN (docTo k (numsN k id) j) (parRow k j) ((numsN k id).getD (k + j) 0)) := fun j => rfl
  rw [row_doc]
  generalize docTo k (numsN k id) = T at *
  generalize numsN k id = l at *
  generalize parRows k = P at *
  generalize parRow k = R at *
  obtain ⟨p, hp⟩ : ∃ p, spN k + 2 = p := ⟨_, rfl⟩
  rw [hp] at HPI HPL HNL ⊢
  have hp1 : 2 ≤ p ∧ p ≤ 11 := by omega
  clear hp hsb
  obtain ⟨n, hn⟩ : ∃ n, k + p = n := ⟨_, rfl⟩
  rw [hn] at HPI HNL
  have hni : (k : Int) + (p : Int) = (n : Int) := by omega
  have hnl : k ≤ n ∧ n ≤ 100 := by omega
  have HTK : Hid ((l.take k).length = k) := by show _ = _; rw [List.length_take, HNL.out]; omega
  go_enter Tryz.func15, Tryz.ntmps15
  go_wp2_with fail
  refine HPI.out.mono ?_
  rintro e w1 ⟨gp, rfl, hs1, hb1⟩
  have HS1 := Lib.hid hs1
  have HB1 := Lib.hid hb1
  have HE1 : Hid (Rw 0 (w1.alloc (.cells #[] 5)) (some ⟨w1.heap.size, 0, none⟩) 0 []) := ⟨⟨by simp [IsByte], by simp, by simp, fun e => (by cases e), .inl rfl⟩, fun h => absurd rfl h⟩
  have HBA : Hid (Below w1.heap.size w1 (w1.alloc (.cells #[] 5))) := (Below.refl _ _).alloc (Nat.le_refl _) _
  have i1 : (0 : Int) ≤ (k : Int) := by omega
  have i2 : (k : Int) ≤ (n : Int) := by omega
  clear hs1 hb1 HPI
  go_wp2_with (at_builtin; refine wpList_appB 0 w1.heap.size 0 [] (some ⟨gp, 0, none⟩) n k (l.take k) _ rfl _ _ rfl rfl rfl HTK.out HE1.out rfl ((HS1.out.below HBA.out).firsts k) (by omega) (by rw [HTK.out]; omega) ?_; intro g2 c2 w2 HR2 hb2)
  refine (HPAR.out w2).mono ?_
  rintro e w3 ⟨v, rfl, ho, hb3⟩
  obtain ⟨va, vc, rfl, hr3⟩ := ho.rs
  have hpl := HPL.out
  have hb12 : Below w1.heap.size w1 w2 := HBA.out.trans (hb2.mono HBA.out.size)
  have HB13 : Hid (Below w1.heap.size w1 w3) := hb12.trans (hb3.mono hb12.size)
  have HB3 : Hid (Below w.heap.size w w3) := HB1.out.trans (HB13.out.mono HB1.out.size)
  have HS3 := Lib.hid (HS1.out.below HB13.out)
  have HR3 := Lib.hid hr3
  have HT3 : Hid (Sl w3 (some ⟨g2, 0, none⟩) c2 (T 0)) := by
    have := HR2.out.sl.below hb3
    rw [List.nil_append, ← HTZ.out] at this
    exact this
  have hpm : P.length ≤ 100 := by omega
  clear ho hr3 hb12 hb2 hb3 HS1 HB1 HE1 HBA HR2 HB13 HPAR
  rw [hpl]
  go_wp2_with fail
  go_loopw [6, 21] (fun o i wr => ∃ j g c : Nat, j ≤ p ∧ i = .int .i64 j ∧ o = .slice (some ⟨g, 0, none⟩) k c ∧ Hid (Sl wr (some ⟨g, 0, none⟩) c (T j)) ∧ Hid (Below w3.heap.size w3 wr)) (fun _ i _ => p - (intOf i).toNat)
  case atStart => exact ⟨0, g2, c2, by omega, rfl, by simp, HT3, Below.refl _ _⟩
  case round =>
    obtain ⟨j, g, c, hj, rfl, rfl, HO, HB⟩ := hrel
    have HBW : Hid (Below w.heap.size w wr) := HB3.out.trans (HB.out.mono HB3.out.size)
    by_cases hjp : j < p
    · have hjP : j < P.length := by omega
      have hkl : k + j < l.length := by have := HNL.out; omega
      obtain ⟨b, off, rfl, hb, hrr⟩ := (HR3.out.keep (Nat.le_refl _) (Keep.of_below HB.out)).some hjP
      obtain ⟨ai, ci, hck, hrw⟩ := hrr j hjP
      rw [HPG.out j hjP] at hck hrw
      have hrl := HPN.out j
      obtain ⟨bl, ol, el, hbl⟩ := (HS3.out.below HB.out).some hkl
      cases el
      have hck2 := hbl (k + j) hkl
      have hy : l[k + j] < 256 := HNB.out _ (List.getElem_mem hkl)
      have HSJ := Lib.hid (HTS.out j)
      rw [getD_get hkl] at HSJ
      obtain ⟨hTl, hTb⟩ := HTO.out j
      have hTl1 := (HTO.out (j + 1)).1
      have HSL := Lib.hid hrw.sl
      generalize R j = m at *
      generalize l[k + j] = y at *
      rw [Nat.zero_add] at hck2
      rw [hrl] at hck
      have c1 := cell_up hck
      have c2' := cell_up hck2
      have i3 : (0 : Int) ≤ (j : Int) := by omega
      have i4 : (j : Int) < (p : Int) := by omega
      have e1 : (k : Int) + (j : Int) = ((k + j : Nat) : Int) := by omega
      have hkn : k + j < n := by omega
      generalize k + j = kj at *
      have i5 : (0 : Int) ≤ (kj : Int) := by omega
      have i6 : (kj : Int) < (n : Int) := by omega
      have HTB := Lib.hid hTb
      clear hrr hrw hbl hTb hck hck2
      go_wp2_with fail
      refine grow_begin (by kernel_rfl) ?_
      refine grow_take (by kernel_rfl) [0, 1, 2, 3, 4, 5, 6, 7, 8, 9, 10] 2 _ _ (by kernel_rfl) ?_
      simp only [opsAt, List.getElem?_toArray, List.getElem?_cons_succ, List.getElem?_cons_zero]
      repeat (first | go_big_quiet_step (fail) | quiet_step (fail))
      refine wpQuiet_nil ?_
      intro w5 hw5
      have hb5 := below_of_up hw5
      clear c1 c2' i3 i4 i5 i6 e1
      refine grow_one 11 (by kernel_rfl) hw5 (fun K hK => ?_)
      simp only [stepOf, List.getElem?_toArray, List.getElem?_cons_succ, List.getElem?_cons_zero]
      go_simp
      go_at_call 32
      have HP : Hid (Calls Tryz.prog 32 #[.slice (some ⟨g, 0, none⟩) k c, .slice ai k ci, .int .u8 (y : Int)] w5 fun e w' => e = .returned (.slice (some ⟨w5.heap.size, 0, none⟩) k k) ∧ Hid (Rw 0 w' (some ⟨w5.heap.size, 0, none⟩) k (T (j + 1))) ∧ Below w5.heap.size w5 w' ∧ Below wr.heap.size wr w') := by
        have := plus_at 0 (some ⟨g, 0, none⟩) ai c ci (T j) m y w5 (by omega) hy (by omega) (HO.out.below hb5) (HSL.out.below hb5) hb5
        rw [hTl, hrl, ← HSJ.out] at this
        exact this
      refine HP.out.mono ?_
      rintro e w6 ⟨rfl, HN6, hb56, hb6⟩
      refine hK.out _ _ hb56 ?_
      clear hK K HP
      generalize w5.heap.size = g5 at *
      refine grow_take (by kernel_rfl) [12] 0 _ _ (by kernel_rfl) ?_
      simp only [opsAt, List.getElem?_toArray, List.getElem?_cons_succ, List.getElem?_cons_zero]
      repeat (first | go_big_quiet_step (fail) | quiet_step (fail))
      refine wpQuiet_nil ?_
      intro w8 hw8
      have hb8 := below_of_up hw8
      have HO8 := Lib.hid (HN6.out.sl.below hb8)
      have HB8 : Hid (Below w3.heap.size w3 w8) := HB.out.trans ((hb6.trans (hb8.mono hb6.size)).mono HB.out.size)
      refine grow_done (by kernel_rfl) ?_
      clear hb5 hw5 hw8 hb8 HN6 hb56 hb6
      go_wp2_with fail
      go_roundw
      case rel => exact ⟨j + 1, g5, k, by omega, by go_num, rfl, HO8, HB8⟩
      case measure => simp [intOf]; omega
    · obtain rfl : j = p := by omega
      go_wp2_with fail
      go_ret
      exact ⟨g, c, rfl, HO.out, HBW.out⟩
end Go.Proofs.YtcopjbapglndgaaGreatDoor
end

section
namespace Go.Proofs.YtcopjbapglndgaaGreatDoor
open Go.ChangeShapes Go.WideShapes Go.ChangeAt Go.RowKit Go.Joins
set_option linter.unusedVariables false

def GridPost (ls : Rws) (n : Nat) (w : World) (e : Ending) (w' : World) : Prop :=
  ∃ g, e = .returned (.slice (some ⟨g, 0, none⟩) n n) ∧ Grid w.heap.size w' g ls ∧ Below w.heap.size w w'

/-- The slices of block g lie from block B on. -/
def CellsHi (B : Nat) (w : World) (g : Nat) : Prop := ∃ cs, w.heap[g]? = some (.cells cs 35 (0, 0)) ∧ ∀ (i : Nat) (p : Addr) (n c : Nat), cs[i]? = some (.slice (some p) n c) → B ≤ p.block
theorem CellsHi.new (B n : Nat) (w : World) : CellsHi B (w.alloc (.cells (rowArr n nilV) 35)) w.heap.size :=
  ⟨_, heap_alloc_new w _, fun i p m c h => by
    obtain ⟨hi, e⟩ := Array.getElem?_eq_some_iff.1 h
    simp [rowArr, nilV] at e⟩
theorem CellsHi.below {B C : Nat} {w w' : World} {g : Nat} (h : CellsHi B w g) (k : Below C w w') (hg : g < C) : CellsHi B w' g := by
  obtain ⟨cs, h1, h2⟩ := h
  exact ⟨cs, (k.block g hg).trans h1, h2⟩
theorem CellsHi.set {B : Nat} {w : World} {g : Nat} (h : CellsHi B w g) (j : Nat) (b n c : Nat) (hb : B ≤ b) : CellsHi B (w.setCell ⟨g, j, none⟩ (.slice (some ⟨b, 0, none⟩) n c)) g := by
  obtain ⟨cs, h1, h2⟩ := h
  refine ⟨_, block_setCell h1 _, fun i p m d e => ?_⟩
  rw [Array.getElem?_setIfInBounds] at e
  split at e
  · split at e
    · injection e with e
      injection e with e _ _
      injection e with e
      subst e
      exact hb
    · cases e
  · exact h2 i p m d e
theorem CellsHi.at {B : Nat} {w : World} {g : Nat} (h : CellsHi B w g) {i : Nat} {p : Addr} {n c : Nat} (hc : w.cell? ⟨g, i, none⟩ = some (.slice (some p) n c)) : B ≤ p.block := by
  obtain ⟨cs, h1, h2⟩ := h
  rw [cell_of_block h1] at hc
  exact h2 i p n c hc
/-- The same, and the slices lie in blocks of the call's own. -/
def GridHi (ls : Rws) (n : Nat) (w : World) (e : Ending) (w' : World) : Prop :=
  ∃ g, e = .returned (.slice (some ⟨g, 0, none⟩) n n) ∧ Grid w.heap.size w' g ls ∧ Below w.heap.size w w' ∧ CellsHi w.heap.size w' g
theorem GridHi.post {ls : Rws} {n : Nat} {w : World} {e : Ending} {w' : World} (h : GridHi ls n w e w') : GridPost ls n w e w' := by
  obtain ⟨g, h1, h2, h3, _⟩ := h
  exact ⟨g, h1, h2, h3⟩

set_option maxHeartbeats 800000 in
theorem rows_hi (k : Int) (n K : Nat) (hn : n ≤ 1000) (hK : K ≤ 1000) (r : Nat → List Nat) (hr : ∀ j, (r j).length = K ∧ IsByte (r j))
    (hC : ∀ w, Calls Tryz.prog 89 #[.int .i64 k] w fun e w' => e = .returned (.int .i64 (n : Int)) ∧ w = w')
    (hN : ∀ j : Nat, j < n → ∀ w, Calls Tryz.prog 105 #[.int .i64 (j : Int), .int .i64 k] w fun e w' => e = .returned (.slice (some ⟨w.heap.size, 0, none⟩) K K) ∧ NewTo w w' (r j) K) (w : World) :
    Calls Tryz.prog 90 #[.int .i64 k] w (GridHi ((List.range n).map r) n w) := by
  have HR := Lib.hid hr
  have HC := Lib.hid hC
  have HN := Lib.hid hN
  have hmk := make_grid n (by omega) w
  have HG0 := Lib.hid (Grid.new w.heap.size n w (Nat.le_refl _))
  have HB0 := Lib.hid ((Below.refl w.heap.size w).alloc (Nat.le_refl _) (.cells (rowArr n nilV) 35))
  have HC0 := Lib.hid (CellsHi.new w.heap.size n w)
  clear hr hC hN
  go_enter Tryz.func90, Tryz.ntmps90
  go_wp2_with (go_at_call 89; refine (HC.out _).mono ?_; rintro e w' ⟨rfl, rfl⟩)
  clear hmk
  go_loopw [10] (fun i wr => ∃ (j : Nat) (ls : Rws), j ≤ n ∧ i = .int .i64 j ∧ Hid (Grid w.heap.size wr w.heap.size ls) ∧ Hid (ls.length = n) ∧ Hid (∀ i (h : i < ls.length), i < j → ls[i] = r i) ∧ Hid (Below w.heap.size w wr) ∧ Hid (CellsHi w.heap.size wr w.heap.size)) (fun i _ => n - (intOf i).toNat)
  case atStart => exact ⟨0, List.replicate n [], by omega, rfl, HG0, by show _ = _; simp, fun i h hi => by omega, HB0, HC0⟩
  case round =>
    obtain ⟨j, ls, hj, rfl, HG, HL, HT, HB, HHI⟩ := hrel
    by_cases hlt : j < n
    · go_wp2_with fail
      refine (HN.out j hlt _).mono ?_
      rintro e w1 ⟨rfl, hn1⟩
      have hb1 := hn1.below
      have HG1 := Lib.hid (HG.out.below hb1)
      have HB1 : Hid (Below w.heap.size w w1) := HB.out.trans (hb1.mono HB.out.size)
      have hjl : j < ls.length := by rw [HL.out]; exact hlt
      have hrw : Rw w.heap.size w1 (some ⟨wr.heap.size, 0, none⟩) K (r j) := rw_of hn1 (HR.out j).1 (HR.out j).2 (by omega)
      have hgs := HG1.out.set hjl hrw
      rw [(HR.out j).1] at hgs
      have HGS := Lib.hid hgs
      have HBS : Hid (Below w.heap.size w (w1.setCell ⟨w.heap.size, j, none⟩ (.slice (some ⟨wr.heap.size, 0, none⟩) K K))) := HB1.out.setCell (Nat.le_refl _) _
      obtain ⟨ca, cc, hcell, _⟩ := HG1.out.cell hjl
      have hlo := HG1.out.loose j
      have HHS : Hid (CellsHi w.heap.size (w1.setCell ⟨w.heap.size, j, none⟩ (.slice (some ⟨wr.heap.size, 0, none⟩) K K)) w.heap.size) := (HHI.out.below hb1 HG.out.lt).set j _ _ _ HB.out.size
      have HT2 : Hid (∀ i (h : i < (ls.set j (r j)).length), i < j + 1 → (ls.set j (r j))[i] = r i) := fun i h hi => by
        by_cases e : i = j
        · subst e; simp
        · rw [List.getElem_set_ne (Ne.symm e)]; exact HT.out i (by simpa using h) (by omega)
      have HL2 : Hid ((ls.set j (r j)).length = n) := by show _ = _; rw [List.length_set]; exact HL.out
      generalize ls.set j (r j) = ls2 at *
      generalize wr.heap.size = g1 at *
      clear hrw hn1 hgs hb1
      go_wp2_with fail
      go_roundw
      case rel => exact ⟨j + 1, ls2, by omega, by go_num, HGS, HL2, HT2, HBS, HHS⟩
      case measure => simp [intOf]; omega
    · obtain rfl : j = n := by omega
      have HE : Hid (ls = (List.range j).map r) := by
        show _ = _
        apply List.ext_getElem
        · rw [HL.out]; simp
        · intro i h1 h2
          rw [HT.out i h1 (by simpa using h2)]; simp
      go_wp2_with fail
      go_ret
      exact ⟨_, rfl, by rw [← HE.out]; exact HG.out, HB.out, HHI.out⟩

theorem rows_gen (k : Int) (n K : Nat) (hn : n ≤ 1000) (hK : K ≤ 1000) (r : Nat → List Nat) (hr : ∀ j, (r j).length = K ∧ IsByte (r j))
    (hC : ∀ w, Calls Tryz.prog 89 #[.int .i64 k] w fun e w' => e = .returned (.int .i64 (n : Int)) ∧ w = w')
    (hN : ∀ j : Nat, j < n → ∀ w, Calls Tryz.prog 105 #[.int .i64 (j : Int), .int .i64 k] w fun e w' => e = .returned (.slice (some ⟨w.heap.size, 0, none⟩) K K) ∧ NewTo w w' (r j) K) (w : World) :
    Calls Tryz.prog 90 #[.int .i64 k] w (GridPost ((List.range n).map r) n w) :=
  (rows_hi k n K hn hK r hr hC hN w).mono fun _ _ h => h.post

theorem rows_hi_pre (k : Nat) (h1 : 1 ≤ k) (hk : k ≤ 64) (w : World) :
    Calls Tryz.prog 90 #[.int .i64 (k : Int)] w (GridHi (parRows k) (spN k + 2) w) :=
  rows_hi k (spN k + 2) k (by have := spN_bound hk; omega) (by omega) (parRow k) (fun j => ⟨parRow_len k j, parRow_byte k j⟩) (fun w => pcount_any k h1 hk w) (fun j hj w => numbers_any j k h1 hk hj w) w

theorem rows_pre (k : Nat) (h1 : 1 ≤ k) (hk : k ≤ 64) (w : World) :
    Calls Tryz.prog 90 #[.int .i64 (k : Int)] w (GridPost (parRows k) (spN k + 2) w) :=
  rows_gen k (spN k + 2) k (by have := spN_bound hk; omega) (by omega) (parRow k) (fun j => ⟨parRow_len k j, parRow_byte k j⟩) (fun w => pcount_any k h1 hk w) (fun j hj w => numbers_any j k h1 hk hj w) w

theorem rows_none (k : Int) (h : k < 1 ∨ 64 < k) (w : World) :
    Calls Tryz.prog 90 #[.int .i64 k] w (GridPost [] 0 w) :=
  rows_gen k 0 0 (by omega) (by omega) (fun _ => []) (fun j => ⟨rfl, by simp [IsByte]⟩) (fun w => count_none k h w) (fun j hj => absurd hj (by omega)) w
end Go.Proofs.YtcopjbapglndgaaGreatDoor
end

section
namespace Go.Proofs.YtcopjbapglndgaaGreatDoor
open Go.ChangeShapes Go.WideShapes Go.ChangeAt Go.RowKit Go.Joins
set_option linter.unusedVariables false

/-- Bytes in a block of bytes stay, wherever a frame begins. -/
theorem Rw.up {w : World} {a : Option Addr} {cap : Nat} {l : List Nat} (h : Rw 0 w a cap l) (B : Nat) : Rw B w a cap l :=
  ⟨h.sl, fun hl p hp => (h.tag hl p hp).elim (fun h => absurd h (Nat.not_lt_zero _)) .inr⟩
def SumPost (v : Rws) (m : Nat) (row : List Nat) (w : World) (e : Ending) (w' : World) : Prop :=
  ∃ g, e = .returned (.slice (some ⟨g, 0, none⟩) m m) ∧ Rw 0 w' (some ⟨g, 0, none⟩) m (symTo v m row v.length) ∧ Below w.heap.size w w'

end Go.Proofs.YtcopjbapglndgaaGreatDoor
end

section
namespace Go.Proofs.YtcopjbapglndgaaGreatDoor
open Go.ChangeShapes Go.WideShapes Go.ChangeAt Go.RowKit Go.Joins
set_option linter.unusedVariables false

theorem Keep.over {B : Nat} {a w w' : World} (h : Keep B a w) (k : Below a.heap.size w w') : Keep B a w' :=
  ⟨k.os.trans h.os, k.tape.trans h.tape, k.output.trans h.output, Nat.le_trans h.size k.size, fun i hi hb => by rw [k.block i hi]; exact h.block i hi hb⟩

/-- A cell of a grid is written, and then the bytes that it leads to. -/
theorem Grid.put {B : Nat} {a a1 w : World} {g : Nat} {ls : Rws} (h : Grid B a g ls) (k1 : Below a.heap.size a a1) {i : Nat} (hi : i < ls.length) {p : Option Addr} {c : Nat} {x : List Nat}
    (e : w.heap[g]? = (a1.setCell ⟨g, i, none⟩ (.slice p x.length c)).heap[g]?) (hk : Keep B a w) (hx : Rw B w p c x) : Grid B w g (ls.set i x) := by
  have hlt := h.lt
  obtain ⟨vs, hr, hv⟩ := h.row
  refine ⟨h.low, fun j => if j = i then .slice p x.length c else vs j, ?_, fun j hj => ?_⟩
  · rw [List.length_set]
    obtain ⟨cs, h1, h2, h3⟩ := (hr.below k1 hlt).upd i hi (.slice p x.length c)
    exact ⟨cs, by rw [e]; exact h1, h2, h3⟩
  · rw [List.length_set] at hj
    by_cases ej : j = i
    · subst ej
      exact ⟨p, c, by simp, by simpa using hx⟩
    · obtain ⟨a', c', e1, e2⟩ := hv j hj
      refine ⟨a', c', ?_, ?_⟩
      · simp only [ej, if_false, e1]
        rw [List.getElem_set_ne (Ne.symm ej)]
      · rw [List.getElem_set_ne (Ne.symm ej)]; exact e2.keep hk

def goodB (ls : Rws) (m : Nat) : Bool := ls.all fun x => decide (x.length ≤ m)
theorem goodB_iff {ls : Rws} {m : Nat} : goodB ls m = true ↔ ∀ x ∈ ls, x.length ≤ m := by simp [goodB]
/-- The parities' bytes. -/
def parSyms (ls : Rws) (m : Nat) : Rws := (parRows ls.length).map fun r => symTo ls m r ls.length
def ParPost (ls : Rws) (m : Nat) (w : World) (e : Ending) (w' : World) : Prop :=
  Below w.heap.size w w' ∧ ((goodB ls m = true ∧ ∃ g, e = .returned (.tuple #[.slice (some ⟨g, 0, none⟩) (spN ls.length + 2) (spN ls.length + 2), .int .i64 0]) ∧ Rs w'.heap.size w' (some ⟨g, 0, none⟩) (spN ls.length + 2) (parSyms ls m)) ∨ (goodB ls m = false ∧ e = .returned (.tuple #[.slice none 0 0, .int .i64 3])))

theorem symTo_pads (v : Rws) (m : Nat) (row : List Nat) : ∀ i, i ≤ v.length → symTo (pads v m) m row i = symTo v m row i
  | 0, _ => rfl
  | i + 1, hi => by
    have h1 : (pads v m).getD i [] = fillN v[i] m := by rw [getR (by rw [pads, List.length_map]; omega)]; simp [pads]
    have h2 : v.getD i [] = v[i] := getR (by omega)
    show plusN (symTo (pads v m) m row i) (fillN ((pads v m).getD i []) m) _ = plusN (symTo v m row i) (fillN (v.getD i []) m) _
    rw [symTo_pads v m row i (by omega), h1, h2]
    congr 1
    have := fillN_self (fillN v[i] m)
    rw [fillN_len] at this
    exact this

/-- What lies behind so many sources that were copied. -/
structure FullAt (w : World) (src : Rws) (m n j : Nat) (ls : Rws) (wr : World) : Prop where
  grid : Grid w.heap.size wr w.heap.size ls
  len : ls.length = n
  eq : ∀ i (h : i < ls.length) (h2 : i < src.length), i < j → ls[i] = fillN src[i] m
  short : ∀ i (h2 : i < src.length), i < j → src[i].length ≤ m
  below : Below w.heap.size w wr
theorem FullAt.start (w : World) (src : Rws) (m n : Nat) : FullAt w src m n 0 (List.replicate n []) (w.alloc (.cells (rowArr n nilV) 35)) :=
  ⟨Grid.new _ n w (Nat.le_refl _), by simp, fun i _ _ h => by omega, fun i _ h => by omega, (Below.refl _ _).alloc (Nat.le_refl _) _⟩
theorem FullAt.all {w : World} {src : Rws} {m n : Nat} {ls : Rws} {wr : World} (h : FullAt w src m n n ls wr) (hn : src.length = n) : ls = pads src m := by
  apply List.ext_getElem
  · rw [h.len, pads, List.length_map, hn]
  · intro i h1 h2
    rw [h.eq i h1 (by rw [hn, ← h.len]; exact h1) (by rw [← h.len]; exact h1)]; simp [pads]
theorem FullAt.next {w : World} {src : Rws} {m n j : Nat} {ls : Rws} {wr a1 w' : World} (h : FullAt w src m n j ls wr) (hj : j < src.length) (hn : src.length = n) (hs : src[j].length ≤ m) (hb : IsByte src[j]) (hm : m ≤ 1000000)
    (k1 : Below wr.heap.size wr a1) (e : w'.heap[w.heap.size]? = (a1.setCell ⟨w.heap.size, j, none⟩ (.slice (some ⟨wr.heap.size, 0, none⟩) m m)).heap[w.heap.size]?) (hk : Keep w.heap.size wr w')
    (hg : w'.heap[wr.heap.size]? = some (.cells (rowArr m (vOf (fillN src[j] m))) 5 (0, 0))) : FullAt w src m n (j + 1) (ls.set j (fillN src[j] m)) w' := by
  have hjl : j < ls.length := by rw [h.len, ← hn]; exact hj
  have hrw : Rw w.heap.size w' (some ⟨wr.heap.size, 0, none⟩) m (fillN src[j] m) := by
    refine ⟨(Row.of_whole hg).sl (fillN_len _ _) (fillN_byte hb m) (by unfold maxLen; omega), fun _ p hp => ?_⟩
    cases hp
    exact .inr ⟨_, _, hg⟩
  refine ⟨?_, by rw [List.length_set]; exact h.len, fun i h1 h2 hi => ?_, fun i h2 hi => ?_, h.below.trans (hk.below h.below.size)⟩
  · refine h.grid.put k1 hjl ?_ hk hrw
    rw [fillN_len]; exact e
  · by_cases ei : i = j
    · subst ei; simp
    · rw [List.getElem_set_ne (Ne.symm ei)]; exact h.eq i (by simpa using h1) h2 (by omega)
  · by_cases ei : i = j
    · subst ei; exact hs
    · exact h.short i h2 (by omega)

theorem grid_new_heap (w : World) (o : Obj) (p : Addr) (v : Value) (h : p.block ≠ w.heap.size) : ((w.alloc o).setCell p v).heap[w.heap.size]? = (w.alloc o).heap[w.heap.size]? :=
  Below.heap_setCell _ _ _ _ (Ne.symm h)

end Go.Proofs.YtcopjbapglndgaaGreatDoor
end

section
namespace Go.Proofs.YtcopjbapglndgaaGreatDoor
open Go.ChangeShapes Go.WideShapes Go.ChangeAt Go.RowKit Go.Joins
set_option linter.unusedVariables false
set_option maxRecDepth 10000

/-- While picks are added: the row lies in block g; blocks of before stay, but for the row's first one. -/
structure OfAt (g0 : Nat) (w3 wr : World) (k g : Nat) (l : List Nat) : Prop where
  row : Row wr g 5 k k (vOf l)
  fr : Fr (fun b => b = g0) w3 wr
  spot : g = g0 ∨ w3.heap.size ≤ g
theorem OfAt.later {g0 : Nat} {w3 wr w' : World} {k g : Nat} {l : List Nat} (h : OfAt g0 w3 wr k g l) (b : Below wr.heap.size wr w') : OfAt g0 w3 w' k g l :=
  ⟨h.row.below b h.row.lt, h.fr.later b, h.spot⟩
theorem OfAt.set {g0 : Nat} {w3 wr : World} {k g : Nat} {l : List Nat} (h : OfAt g0 w3 wr k g l) (hl : l.length = k) {i : Nat} (hi : i < k) (v : Nat) : OfAt g0 w3 (wr.setCell ⟨g, i, none⟩ (.int .u8 (v : Int))) k g (l.set i v) :=
  ⟨h.row.set_at hl hi v, h.fr.set (p := ⟨g, i, none⟩) (fun hlt => by
    have hg : g < w3.heap.size := hlt
    show g = g0
    rcases h.spot with e | e
    · exact e
    · omega) _, h.spot⟩
theorem OfAt.turn {g0 : Nat} {w3 wr w' : World} {k g g' : Nat} {l l' : List Nat} (h : OfAt g0 w3 wr k g l) (hs : wr.heap.size ≤ g') (b : Below wr.heap.size wr w') (hr : Row w' g' 5 k k (vOf l')) : OfAt g0 w3 w' k g' l' :=
  ⟨hr, h.fr.later b, .inr (Nat.le_trans h.fr.size hs)⟩
/-- What is read of the parities. -/
structure Pars (g0 : Nat) (w3 : World) (gr k q : Nat) : Prop where
  lt : gr < w3.heap.size
  ne : gr ≠ g0
  at' : ∀ j, j < q → ∃ b off c, w3.cell? ⟨gr, j, none⟩ = some (.slice (some ⟨b, off, none⟩) k c) ∧ b ≠ g0 ∧ Sl w3 (some ⟨b, off, none⟩) c (parRow k j)
theorem Pars.of {w1 w2 : World} {g0 gr k : Nat} (hk : 1 ≤ k) (h0 : g0 < w1.heap.size) (hg : Grid w1.heap.size w2 gr (parRows k)) (hc : CellsHi w1.heap.size w2 gr) : Pars g0 w2 gr k (spN k + 2) := by
  refine ⟨hg.lt, by have := hg.low; omega, fun j hj => ?_⟩
  obtain ⟨a, c, e1, e2⟩ := hg.cell (i := j) (by rw [parRows_len]; exact hj)
  rw [parRows_get] at e1 e2
  rw [parRow_len] at e1
  obtain ⟨b, off, rfl, _⟩ := e2.sl.some (k := 0) (by rw [parRow_len]; omega)
  exact ⟨b, off, c, e1, by have := hc.at e1; simp at this; omega, e2.sl⟩
theorem Pars.below {g0 : Nat} {w w' : World} {gr k q : Nat} (h : Pars g0 w gr k q) (b : Below w.heap.size w w') : Pars g0 w' gr k q := by
  refine ⟨Nat.lt_of_lt_of_le h.lt b.size, h.ne, fun j hj => ?_⟩
  obtain ⟨q, off, c, e1, e2, e3⟩ := h.at' j hj
  exact ⟨q, off, c, by rw [b.cell (p := ⟨gr, j, none⟩) h.lt]; exact e1, e2, e3.below b⟩
theorem Pars.read {g0 : Nat} {w3 wr : World} {gr k q : Nat} (h : Pars g0 w3 gr k q) (hk : 1 ≤ k) (f : Fr (fun b => b = g0) w3 wr) {j : Nat} (hj : j < q) : ∃ b off c, wr.cell? ⟨gr, j, none⟩ = some (.slice (some ⟨b, off, none⟩) k c) ∧ Sl wr (some ⟨b, off, none⟩) c (parRow k j) := by
  obtain ⟨b, off, c, e1, e2, e3⟩ := h.at' j hj
  refine ⟨b, off, c, ?_, e3.byte, e3.len, e3.most, e3.none, ?_⟩
  · rw [World.cell?_of_block (w := w3) (a := ⟨gr, j, none⟩) (f.block gr h.lt h.ne)]; exact e1
  · rcases e3.here with e | ⟨b', off', e, hb⟩
    · exact .inl e
    · cases e
      refine .inr ⟨b, off, rfl, hb.of_block (f.block b ?_ e2)⟩
      exact World.block_lt_of_cell? w3 _ (hb 0 (by rw [parRow_len]; omega))

theorem add_still (a b : Nat) (ha : a < 256) (hb : b < 256) (w : World) :
    Calls Tryz.prog 92 #[.int .u8 (a : Int), .int .u8 (b : Int)] w fun e w' => e = .returned (.int .u8 ((a ^^^ b : Nat) : Int)) ∧ w' = w :=
  (add_any a b ha hb w).mono fun _ _ ⟨h1, h2⟩ => ⟨h1, h2.symm⟩

def OfPost (k : Nat) (l : List Nat) (w : World) (e : Ending) (w' : World) : Prop :=
  ∃ g, e = .returned (.slice (some ⟨g, 0, none⟩) k k) ∧ w.heap.size ≤ g ∧ Row w' g 5 k k (vOf l) ∧ Below w.heap.size w w'

set_option maxHeartbeats 1000000 in
theorem of_any (k id : Nat) (h1 : 1 ≤ k) (hk : k ≤ 64) (hid : id < 4294967296) (w : World) :
    Calls Tryz.prog 74 #[.int .i64 (k : Int), .int .u32 (id : Int)] w (OfPost k (rowN k id) w) := by
  have hsb := spN_bound hk
  have E0 := Lib.hid (pcount_any k h1 hk)
  have E1 := Lib.hid (rows_hi_pre k h1 hk)
  have E2 := Lib.hid (picks_any k id h1 hk hid)
  have hmk := make_row k (by omega) w
  have HPM : Hid (∀ p ∈ picksN k id, p.1 < k + (spN k + 2) ∧ p.2 < 256) := fun p hp => ⟨(picksN_mem hp).1, (picksN_mem hp).2.1⟩
  have HR : Hid (rowN k id = rowTo k (picksN k id) (picksN k id).length) := rfl
  have HRO : Hid (∀ i, i ≤ (picksN k id).length → (rowTo k (picksN k id) i).length = k ∧ IsByte (rowTo k (picksN k id) i)) := fun i hi => rowTo_ok (fun p hp => (picksN_mem hp).2.1) i hi
  have hPL : (picksN k id).length ≤ 1000 := by
    have h1 := cellsTo_len (numsN k id) (numsN k id).length
    rw [numsN_len] at h1
    show (cellsTo _ _).length ≤ 1000
    rw [numsN_len]; omega
  rw [HR.out]
  generalize picksN k id = P at *
  have HST : Hid (∀ i, rowTo k P (i + 1) = addPick k (rowTo k P i) (P.getD i (0, 0))) := fun i => rfl
  have HZ : Hid (rowTo k P 0 = List.replicate k 0) := rfl
  generalize rowTo k P = T at *
  have HR0 : Hid (Row (w.alloc (.cells (rowArr k zV) 5)) w.heap.size 5 k k (vOf (T 0))) := by
    rw [HZ.out]; exact Row.new_whole w _ 5 (vOf (List.replicate k 0)) _ _ rfl (zeros_arr k)
  have HBA : Hid (Below w.heap.size w (w.alloc (.cells (rowArr k zV) 5))) := (Below.refl _ _).alloc (Nat.le_refl _) _
  have HPO : Hid (∀ (w1 w2 : World) (gr : Nat), w.heap.size < w1.heap.size → Grid w1.heap.size w2 gr (parRows k) → CellsHi w1.heap.size w2 gr → Pars w.heap.size w2 gr k (spN k + 2)) := fun w1 w2 gr h => Pars.of h1 h
  generalize hq : spN k + 2 = q at *
  have hne : ((q : Int) == 0) = false := by rw [beq_eq_false_iff_ne]; omega
  have hq1 : 2 ≤ q ∧ q ≤ 11 := by omega
  clear hq hsb
  have hwz : w.heap.size < (w.alloc (.cells (rowArr k zV) 5)).heap.size := by simp
  clear HR HZ
  go_enter Tryz.func74, Tryz.ntmps74
  go_wp2_with fail
  refine (E0.out _).mono ?_
  rintro e w1 ⟨rfl, rfl⟩
  go_wp2_with fail
  clear hmk E0
  generalize w.alloc (.cells (rowArr k zV) 5) = w1 at *
  refine (E1.out _).mono ?_
  rintro e w2 ⟨gr, rfl, hg2, b2, c2⟩
  have HP2 : Hid (Pars w.heap.size w2 gr k q) := HPO.out w1 w2 gr hwz hg2 c2
  have HR2 : Hid (Row w2 w.heap.size 5 k k (vOf (T 0))) := HR0.out.below b2 hwz
  have HB2 : Hid (Below w.heap.size w w2) := HBA.out.trans (b2.mono (by omega))
  have hw2 : w.heap.size < w2.heap.size := Nat.lt_of_lt_of_le hwz b2.size
  clear hg2 b2 c2 HR0 HBA E1
  go_wp2_with fail
  refine (E2.out _).mono ?_
  rintro e w3 ⟨v, rfl, o3, b3⟩
  obtain ⟨pa, pcap, rfl, hct⟩ := o3.form
  have HP3 : Hid (Pars w.heap.size w3 gr k q) := HP2.out.below b3
  have HA3 : Hid (OfAt w.heap.size w3 w3 k w.heap.size (T 0)) := ⟨HR2.out.below b3 hw2, Fr.refl _ _, .inl rfl⟩
  have HB3 : Hid (Below w.heap.size w w3) := HB2.out.trans (b3.mono (by omega))
  have HC3 : Hid (∀ wr, Fr (fun b => b = w.heap.size) w3 wr → Ct w2.heap.size wr pa pcap P) := fun wr f => hct.of_block f.size fun b hb hlt => f.block b hlt (by show ¬ (b = w.heap.size); omega)
  have hcap := hct.most
  clear o3 b3 HP2 HR2 HB2 E2 hct HPO
  generalize hg0 : w.heap.size = g0 at *
  go_wp2_with fail
  go_loopw [5, 20] (fun v i wr => ∃ j g : Nat, j ≤ P.length ∧ i = .int .i64 j ∧ v = .slice (some ⟨g, 0, none⟩) k k ∧ Hid (OfAt g0 w3 wr k g (T j))) (fun _ i _ => P.length - (intOf i).toNat)
  case atStart => exact ⟨0, g0, by omega, rfl, rfl, HA3⟩
  case round =>
    obtain ⟨j, g, hj, rfl, rfl, HK⟩ := hrel
    by_cases hjl : j < P.length
    · obtain ⟨gp, rfl, hgp, hgpl, hc1, hc2⟩ := (HC3.out wr HK.out.fr).some hjl
      have HPJ := Lib.hid (HPM.out P[j] (List.getElem_mem hjl))
      have HGJ : Hid (P.getD j (0, 0) = P[j]) := getC hjl
      have HSJ := Lib.hid (HST.out j)
      rw [HGJ.out] at HSJ
      generalize P[j] = p at *
      obtain ⟨pt, pc⟩ := p
      simp only at hc1 hc2 HPJ
      have hpc : pc < 256 := HPJ.out.2
      have hpt : pt < k + q := HPJ.out.1
      have HX0 : Hid (OfAt g0 w3 (wr.alloc (.cells #[.int .i64 (pt : Int), .int .u8 (pc : Int)] 129)) k g (T j)) := HK.out.later ((Below.refl _ _).alloc (Nat.le_refl _) _)
      have hca : (wr.alloc (.cells #[.int .i64 (pt : Int), .int .u8 (pc : Int)] 129)).cell? ⟨wr.heap.size, 0, none⟩ = some (.int .i64 (pt : Int)) := by simp
      have hcb : (wr.alloc (.cells #[.int .i64 (pt : Int), .int .u8 (pc : Int)] 129)).cell? ⟨wr.heap.size, 1, none⟩ = some (.int .u8 (pc : Int)) := by simp
      obtain ⟨hTl, hTb⟩ := HRO.out j hj
      have HTB := Lib.hid hTb
      clear hTb
      by_cases hptk : pt < k
      · have hd : (pt : Int) < (k : Int) := by omega
        go_wp2_with fail
        generalize wr.alloc (.cells #[.int .i64 (pt : Int), .int .u8 (pc : Int)] 129) = w4 at *
        have hcr : w4.cell? ⟨g, pt, none⟩ = some (.int .u8 (((T j)[pt] : Nat) : Int)) := by rw [HX0.out.row.cell pt hptk, vOf_eq]
        have hlo : w4.frozen? ⟨g, pt, none⟩ = false := HX0.out.row.loose pt
        have hxb : (T j)[pt] < 256 := HTB.out _ (List.getElem_mem _)
        have HE : Hid (T (j + 1) = (T j).set pt ((T j)[pt] ^^^ pc)) := by
          show _ = _
          rw [HSJ.out]; unfold addPick; rw [if_pos hptk]; simp only []; rw [getD_get (by omega)]
        generalize (T j)[pt] = x at *
        have HS5 : Hid (OfAt g0 w3 (w4.setCell ⟨g, pt, none⟩ (.int .u8 ((x ^^^ pc : Nat) : Int))).drew k g (T (j + 1))) := by
          have := HX0.out.set hTl hptk (x ^^^ pc)
          rw [← HE.out] at this
          exact ⟨this.row, ⟨this.fr.os, this.fr.tape, this.fr.output, this.fr.size, this.fr.block⟩, this.spot⟩
        have i1 : (0 : Int) ≤ (pt : Int) := by omega
        generalize hpb : wr.heap.size = pb at *
        clear hc1 hc2
        refine wp_region_still_tail 12 (by kernel_rfl) (by kernel_rfl) ?_
        simp only [List.take_succ_cons, List.take_zero, List.drop_succ_cons, List.drop_zero]
        repeat (first | still_step | (still_call (add_still _ _ hxb hpc _)))
        refine wpStill_nil ?_
        change wpList _ _ _ _ _ w4.drew
        clear i1
        go_wp2
        go_roundw
        case rel => exact ⟨j + 1, g, by omega, by go_num, rfl, HS5⟩
        case measure => simp [intOf]; omega
      · have hd : ¬ (pt : Int) < (k : Int) := by omega
        have hj2 : pt - k < q := by omega
        go_wp2_with fail
        generalize wr.alloc (.cells #[.int .i64 (pt : Int), .int .u8 (pc : Int)] 129) = w4 at *
        obtain ⟨b, off, c, hcp, hsp⟩ := HP3.out.read h1 HX0.out.fr hj2
        have HSP := Lib.hid hsp
        have hsub : (pt : Int) - (k : Int) = ((pt - k : Nat) : Int) := by omega
        have HE : Hid (T (j + 1) = plusN (T j) (parRow k (pt - k)) pc) := by
          show _ = _
          rw [HSJ.out]; unfold addPick; rw [if_neg hptk]
        have hpl : (parRow k (pt - k)).length = k := parRow_len _ _
        generalize parRow k (pt - k) = m at *
        generalize pt - k = jj at *
        have i1 : (0 : Int) ≤ (jj : Int) := by omega
        have i2 : (jj : Int) < (q : Int) := by omega
        have c1 := cell_up hca
        have c2 := cell_up hcb
        have c3 := cell_up hcp
        generalize hpb : wr.heap.size = pb at *
        clear hc1 hc2 hsp
        refine grow_begin (by kernel_rfl) ?_
        refine grow_take (by kernel_rfl) [0, 1, 2, 3, 4, 5, 6, 7, 8, 9] 5 _ _ (by kernel_rfl) ?_
        simp only [opsAt, List.getElem?_toArray, List.getElem?_cons_succ, List.getElem?_cons_zero]
        repeat (first | go_big_quiet_step (fail) | quiet_step (fail))
        refine wpQuiet_nil ?_
        intro w5 hw5
        have hb5 := below_of_up hw5
        clear c1 c2 c3 i1 i2
        refine grow_one 10 (by kernel_rfl) hw5 (fun K hK => ?_)
        simp only [stepOf, List.getElem?_toArray, List.getElem?_cons_succ, List.getElem?_cons_zero]
        go_simp
        go_at_call 75
        have HAX : Hid (Calls Tryz.prog 75 #[.slice (some ⟨g, 0, none⟩) k k, .slice (some ⟨b, off, none⟩) k c, .int .u8 (pc : Int)] w5 fun e w' => e = .returned (.tuple #[.slice (some ⟨w5.heap.size, 0, none⟩) k k, .int .i64 0]) ∧ NewTo w5 w' (T (j + 1)) k) := by
          have := axpy_same (some ⟨g, 0, none⟩) (some ⟨b, off, none⟩) k c (T j) m pc w5 (by omega) hpc (by omega) ((HX0.out.row.sl hTl HTB.out (by unfold maxLen; omega)).below hb5) (HSP.out.below hb5)
          rw [hTl, hpl, ← HE.out] at this
          exact this
        refine HAX.out.mono ?_
        rintro e w6 ⟨rfl, hn6⟩
        have hb56 := hn6.below
        refine hK.out _ _ hb56 ?_
        clear hK K HAX
        have hz5 := hb5.size
        have HT6 : Hid (OfAt g0 w3 w6 k w5.heap.size (T (j + 1))) := (HX0.out.later hb5).turn (Nat.le_refl _) hb56 (by have := hn6.row; rw [(HRO.out (j + 1) (by omega)).1] at this; exact this)
        clear hn6 hb56
        generalize w5.heap.size = g5 at *
        refine grow_take (by kernel_rfl) [11, 12, 13, 14] 0 _ _ (by kernel_rfl) ?_
        simp only [opsAt, List.getElem?_toArray, List.getElem?_cons_succ, List.getElem?_cons_zero]
        repeat (first | go_big_quiet_step (fail) | quiet_step (fail))
        refine wpQuiet_nil ?_
        intro w8 hw8
        have HT8 : Hid (OfAt g0 w3 w8 k g5 (T (j + 1))) := HT6.out.later (below_of_up hw8)
        refine grow_done (by kernel_rfl) ?_
        clear hb5 hw5 hw8 HT6
        go_wp2_with fail
        go_roundw
        case rel => exact ⟨j + 1, g5, by omega, by go_num, rfl, HT8⟩
        case measure => simp [intOf]; omega
    · obtain rfl : j = P.length := by omega
      go_wp2_with fail
      go_ret
      have hsz : g0 ≤ w3.heap.size := by have := HB3.out.size; omega
      have hbe := HB3.out.trans (HK.out.fr.below hsz fun i hi e => by have e' : i = g0 := e; omega)
      have hge : g0 ≤ g := by
        rcases HK.out.spot with e | e
        · omega
        · omega
      rw [← hg0] at hbe hge
      exact ⟨g, rfl, hge, HK.out.row, hbe⟩

theorem of_none (k : Int) (id : Nat) (h : k < 1 ∨ 64 < k) (w : World) :
    Calls Tryz.prog 74 #[.int .i64 k, .int .u32 (id : Int)] w fun e w' => e = .returned (.slice none 0 0) ∧ w = w' := by
  have E0 := Lib.hid (count_none k h)
  go_enter Tryz.func74, Tryz.ntmps74
  go_wp2_with (go_at_call 89; refine (E0.out _).mono ?_; rintro e w1 ⟨rfl, rfl⟩)
  go_ret
  exact ⟨rfl, rfl⟩
end Go.Proofs.YtcopjbapglndgaaGreatDoor
end
