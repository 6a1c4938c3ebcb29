/-
  The document's Picks and Row.
-/
import Derived.Test.YtgfcpneblkleiaaEncMath
import Derived.Test.YtgfcpneblkleiaaRowA
import Derived.Test.YtgfcpneblkleiaaPreRef
import Derived.Test.YtgfcpneblkleiaaRefSym
import Derived.Laws.Append
import Derived.Laws.AppendOwn
namespace Go.Proofs.Ytgfcpneblkleiaa
open Go.ChangeShapes Go.WideShapes Go.ChangeAt Go.RowKit Go.Joins
set_option linter.unusedVariables false

theorem byte_appB {l m : List Nat} (h1 : IsByte l) (h2 : IsByte m) : IsByte (l ++ m) := fun n hn => (List.mem_append.1 hn).elim (h1 n) (h2 n)
theorem info8B : (Try.prog.info? 5).map (fun i => (i.zero, i.size, i.bytes)) = some (some (.int .u8 0), 1, 1) := by kernel_rfl
theorem run_appB (B : Nat) (ty : TypeId) (g n : Nat) (l : List Nat) (ga : Option Addr) (gc : Nat) (m : List Nat) (w : World) (hg : Rw B w (some ⟨g, 0, none⟩) n l) (hl : l.length = n) (hs : Sl w ga gc m) (hn : n ≤ 100000) (hm : m.length ≤ 100000) :
    ∃ g' cap w', (Builtin.append_ #[30, 30] ty #[.slice (some ⟨g, 0, none⟩) n n, .slice ga m.length gc]).run Try.prog w = .ok (.slice (some ⟨g', 0, none⟩) (n + m.length) cap) w' ∧ Rw B w' (some ⟨g', 0, none⟩) cap (l ++ m) ∧ Below w.heap.size w w' := by
  obtain ⟨i0, hi, hz0, hz1, hz2⟩ := info_parts info8B
  have hrd : ∀ (k : List Nat) (b off : Nat), BytesIn w b off k → ∀ j v, (k.map byteV)[j]? = some v → w.cell? ((⟨b, off, none⟩ : Addr).add j) = some v := fun k b off hb j v hv => by
    rw [List.getElem?_map] at hv
    obtain ⟨x, hx, rfl⟩ := Option.map_eq_some_iff.1 hv
    obtain ⟨hj, rfl⟩ := List.getElem?_eq_some_iff.1 hx
    have := hb j hj
    by_cases j0 : j = 0
    · subst j0; simpa [Addr.add, byteV] using this
    · simpa [Addr.add, j0, byteV] using this
  have hold : BytesIn w g 0 l := by
    rcases hg.sl.here with rfl | ⟨b, off, e, hb⟩
    · intro i hi; simp at hi
    · cases e; exact hb
  by_cases h0 : m = []
  · subst h0
    refine ⟨g, n, w, ?_, by rw [List.append_nil]; exact hg, Below.refl _ _⟩
    cases ga with
    | none =>
      obtain ⟨_, rfl⟩ := hs.none rfl
      simp [Builtin.append_, run_underlying Try.underlying30, sizeOf, typeInfo, hi, Builtin.lenOf, Builtin.firstCells, storeCells]
    | some ad =>
      have hf := run_firstCells_some (P := Try.prog) w i0.size 0 ad 0 gc [] (by simp) (by simp)
      simp [Builtin.append_, run_underlying Try.underlying30, sizeOf, typeInfo, hi, Builtin.lenOf, hf, storeCells]
  · have hpos : 0 < m.length := List.length_pos_iff.2 h0
    obtain ⟨b, off, rfl, hb⟩ := hs.some hpos
    have hr := run_append_grow (P := Try.prog) w 30 ty 5 i0 (.int .u8 0) Try.underlying30 hi hz0 ⟨g, 0, none⟩ n n (l.map byteV) (by rw [List.length_map, hl, hz1]; simp) (hrd l g 0 hold) ⟨b, off, none⟩ m.length gc (m.map byteV) (by rw [List.length_map, hz1]; simp) (hrd m b off hb) (by omega) (by omega) (growslice_fits (by omega) (by rw [hz2]; omega))
    refine ⟨_, _, _, hr, ⟨⟨byte_appB hg.sl.byte hs.byte, ?_, ?_, fun e => (by cases e), .inr ⟨w.heap.size, 0, rfl, fun i hi => ?_⟩⟩, fun _ p hp => ?_⟩, ?_⟩
    · have := grownCap_ge w (n + m.length) n 5
      rw [List.length_append]; omega
    · exact grownCap_le_maxLen _ _ _ _ (by unfold maxLen; omega)
    · rw [List.length_append] at hi
      have hcell : ∀ (cs : Array Value) (k : Nat), (w.drew.alloc (.cells cs 5)).cell? ⟨w.heap.size, k, none⟩ = cs[k]? := fun cs k => by
        exact cell_of_row _ _ k cs 5 (0, 0) (heap_alloc_new w.drew _)
      rw [hcell, Nat.zero_add, Array.getElem?_append_left (by simp; omega), Array.getElem?_append]
      by_cases hk : i < l.length
      · rw [if_pos (by simpa using hk)]
        simp [hk, byteV, List.getElem_append_left hk]
      · rw [if_neg (by simpa using hk)]
        have hk2 : i - l.length < m.length := by omega
        simp [hk2, byteV, List.getElem_append_right (Nat.le_of_not_lt hk)]
    · cases hp
      exact .inr ⟨_, (0, 0), heap_alloc_new w.drew _⟩
    · exact ((Below.refl w.heap.size w).drew).alloc (Nat.le_refl _) _


theorem wpList_appB {ops : Array Oper} {rest : List Oper} {o : Oper} {a : Act} {Q : Exit → Act → World → Prop} (B : Nat) (g n : Nat) (l : List Nat) (ga : Option Addr) (gc q : Nat) (m : List Nat) (w : World) (hgd : o.guard = none) (s x : Operand)
    (ho : o.op = .call { callee := .builtin .append, args := #[s, x], argTypes := #[30, 30] }) (hsv : a.eval s = .slice (some ⟨g, 0, none⟩) n n) (hxv : a.eval x = .slice ga q gc) (hq : m.length = q)
    (hg : Rw B w (some ⟨g, 0, none⟩) n l) (hl : l.length = n) (hs : Sl w ga gc m) (hn : n ≤ 100000) (hm : m.length ≤ 100000)
    (h : ∀ g' cap w', Hid (Rw B w' (some ⟨g', 0, none⟩) cap (l ++ m)) → Below w.heap.size w w' → wpList Try.prog ops Q rest (a.put o.dst (.slice (some ⟨g', 0, none⟩) (n + q) cap)) w') : wpList Try.prog ops Q (o :: rest) a w := by
  subst hq
  refine wpList_plain hgd fun K hK => ?_
  obtain ⟨g', cap, w', hr, h2, h3⟩ := run_appB B o.type g n l ga gc m w hg hl hs hn hm
  unfold Oper.wp execOp
  simp only [ho, resolve, invoke, builtin, Sem.run_bind, Sem.run_pure, Result.andThen_ok, List.map_toArray, List.map_cons, List.map_nil, hsv, hxv, hr]
  exact hK _ _ (h g' cap w' h2 h3)

theorem Sl.firsts {w : World} {a : Option Addr} {cap : Nat} {l : List Nat} (h : Sl w a cap l) (q : Nat) : Sl w a cap (l.take q) := by
  have hle : (l.take q).length ≤ l.length := by rw [List.length_take]; omega
  refine ⟨fun n hn => h.byte n (List.mem_of_mem_take hn), Nat.le_trans hle h.len, h.most, fun e => ⟨by rw [(h.none e).1, List.take_nil], (h.none e).2⟩, ?_⟩
  rcases h.here with rfl | ⟨b, off, e, hb⟩
  · exact .inl List.take_nil
  · refine .inr ⟨b, off, e, fun i hi => ?_⟩
    rw [hb i (by omega), List.getElem_take]

/-- While places are drawn: the numbers, all else. -/
structure PickAt (W : World) (g n : Nat) (wr : World) (l : List Nat) : Prop where
  low : W.heap.size ≤ g
  row : Row wr g 5 n n (vOf l)
  below : Below W.heap.size W wr
theorem PickAt.set {W : World} {g n : Nat} {w : World} {l : List Nat} (h : PickAt W g n w l) (hl : l.length = n) {k : Nat} (hk : k < n) (v : Nat) : PickAt W g n (w.setCell ⟨g, k, none⟩ (.int .u8 (v : Int))) (l.set k v) :=
  ⟨h.low, h.row.set_at hl hk v, h.below.setCell h.low _⟩

theorem umod (y n : Nat) : ((y : Int).tmod (n : Int) = ((y % n : Nat) : Int)) ∧ ((y : Int) % (n : Int) = ((y % n : Nat) : Int)) :=
  ⟨by rw [Int.tmod_eq_emod_of_nonneg (by omega)]; rfl, rfl⟩

set_option maxRecDepth 100000 in
set_option maxHeartbeats 2000000 in
theorem refPicks_any (k id : Nat) (h1 : 1 ≤ k) (hk : k ≤ 64) (hid : id < 4294967296) (w : World) :
    Calls Try.prog 16 #[.int .i64 (k : Int), .int .u32 (id : Int)] w (DrawPost w (numsN k id) (k + (spN k + 2))) := by
  have hsb := spN_bound hk
  have HPAR := Lib.hid (refPar_any k h1 hk w)
  have HPL := Lib.hid (parRows_len k)
  have hsd : seedN k id < 4294967296 := Nat.mod_lt _ (by omega)
  have HSD := Lib.hid (fun w => refSeed_any k id (by omega) hid w)
  have HBG := Lib.hid (fun w => refBegin_any (seedN k id) hsd w)
  have hy := beginN_lt hsd
  have HNX := Lib.hid (fun (x : Nat) (hx : x < 4294967296) (w : World) => refNext_any x hx w)
  have hx1 := nextN_lt hy
  have HN : Hid (numsN k id = drawnN (beginN (seedN k id)) (k + (spN k + 2))) := rfl
  rw [HN.out]
  generalize parRows k = P at *
  generalize spN k = sp at *
  obtain ⟨p, hp⟩ : ∃ p, sp + 2 = p := ⟨_, rfl⟩
  rw [hp] at HPL ⊢
  have hp1 : 3 ≤ p + 1 ∧ p ≤ 11 := by omega
  clear hp hsb HN sp
  generalize beginN (seedN k id) = x at *
  generalize seedN k id = s at *
  obtain ⟨n, hn⟩ : ∃ n, k + p = n := ⟨_, rfl⟩
  have hni : (k : Int) + (p : Int) = (n : Int) := by omega
  have hn1 : 1 ≤ n ∧ n ≤ 100 := by omega
  rw [hn]
  clear hn hp1
  obtain ⟨D, hD, hDn, hDt⟩ := capI_nat (degN (nextN x % 1024)) n hn1.1
  have HDR : Hid (drawnN x n = (drawD (nextN x) n D).2) := by show _ = _; unfold drawnN; rw [hDt]
  have HDG : Hid (∀ w, Calls Try.prog 25 #[.int .u64 ((nextN x % 1024 : Nat) : Int), .int .i64 (n : Int)] w fun e w' => e = .returned (.int .i64 (D : Int)) ∧ w = w') := fun w => by
    have := refDegree_any (nextN x % 1024) (n : Int) (Nat.mod_lt _ (by omega)) w
    rw [hD] at this
    exact this
  have HST := Lib.hid (drawD_state hx1 n)
  have HLN := Lib.hid (drawD_len (nextN x) n)
  have HBY := Lib.hid (drawD_byte (nextN x) n)
  have HFR : Hid (∀ d a, d < n → a < n → FreeIn (drawD (nextN x) n d).2 a n) := fun d a hd ha => drawD_free (nextN x) n d a hd ha
  have HD0 : Hid (drawD (nextN x) n 0 = (nextN x, List.replicate n 0)) := rfl
  have HDS : Hid (∀ d, drawD (nextN x) n (d + 1) = stepD n (drawD (nextN x) n d)) := fun d => rfl
  have HN1 := Lib.hid (HNX.out x hy)
  have m1a : ((nextN x : Nat) : Int).tmod 1024 = ((nextN x % 1024 : Nat) : Int) := by rw [Int.tmod_eq_emod_of_nonneg (by omega)]; omega
  have m1b : ((nextN x : Nat) : Int) % 1024 = ((nextN x % 1024 : Nat) : Int) := by omega
  have hm1 := Nat.mod_lt (nextN x) (show 0 < 1024 by omega)
  clear hD hDt
  rw [HDR.out]
  generalize drawD (nextN x) n = S at *
  generalize nextN x = x1 at *
  obtain ⟨d0, hd0⟩ : ∃ d0, x1 % 1024 = d0 := ⟨_, rfl⟩
  rw [hd0] at HDG m1a m1b hm1
  clear HDR hd0
  go_enter Try.func16, Try.ntmps16
  go_wp2_with fail
  refine HPAR.out.mono ?_
  rintro e w1 ⟨v, rfl, ho, hb⟩
  obtain ⟨va, vc, rfl, -⟩ := ho.rs
  have HB1 := Lib.hid hb
  have hpl := HPL.out
  have hpm : P.length ≤ 100 := by omega
  clear ho hb HPAR
  rw [hpl]
  have hmk := make_row n (by omega) w1
  have HR0 : Hid (PickAt w w1.heap.size n (w1.alloc (.cells (rowArr n zV) 5)) (S 0).2) := by
    rw [HD0.out]
    exact ⟨HB1.out.size, Row.new_whole w1 _ 5 (vOf (List.replicate n 0)) _ _ rfl (zeros_arr n), HB1.out.alloc HB1.out.size _⟩
  have HS0 : Hid ((S 0).1 = x1) := by show _ = _; rw [HD0.out]
  go_wp2_with (first | (go_at_call 24; refine (HSD.out _).mono ?_; rintro e w' ⟨rfl, rfl⟩) | (go_at_call 23; refine (HBG.out _).mono ?_; rintro e w' ⟨rfl, rfl⟩) | (go_at_call 22; refine (HN1.out _).mono ?_; rintro e w' ⟨rfl, rfl⟩))
  refine (HDG.out _).mono ?_
  rintro e w' ⟨rfl, rfl⟩
  generalize w1.heap.size = g at *
  generalize w1.alloc (.cells (rowArr n zV) 5) = w2 at *
  clear hmk HB1 HDG HSD HBG HN1 m1a m1b HD0 hpl hpm HPL
  go_wp2_with fail
  go_loopw [6, 25] (fun xv i wr => ∃ j : Nat, j ≤ D ∧ i = .int .i64 j ∧ xv = .int .u64 (((S j).1 : Nat) : Int) ∧ Hid (PickAt w g n wr (S j).2)) (fun _ i _ => D - (intOf i).toNat)
  case atStart => exact ⟨0, by omega, rfl, by rw [HS0.out], HR0⟩
  case round =>
    obtain ⟨j, hj, rfl, rfl, HK⟩ := hrel
    by_cases hjD : j < D
    · have hy := HST.out j
      have hy1 := nextN_lt hy
      have hy2 := nextN_lt hy1
      have hll := HLN.out j
      have HLB := Lib.hid (HBY.out j)
      have hf0 : nextN (S j).1 % n < n := Nat.mod_lt _ (by omega)
      have HFJ : Hid (FreeIn (S j).2 (nextN (S j).1 % n) n) := HFR.out j _ (by omega) hf0
      have hlt2 := goN_lt (l := (S j).2) n (nextN (S j).1 % n) (by omega)
      have HNXT : Hid (S (j + 1) = (nextN (nextN (S j).1), (S j).2.set (goN (S j).2 (nextN (S j).1 % n) n) (1 + nextN (nextN (S j).1) % 255))) := HDS.out j
      generalize (S j).1 = y at *
      generalize (S j).2 = l at *
      have E1 := Lib.hid (HNX.out y hy)
      obtain ⟨m1, m2⟩ := umod (nextN y) n
      have E2 := Lib.hid (HNX.out (nextN y) hy1)
      have m3 : ((nextN (nextN y) : Nat) : Int).tmod 255 = ((nextN (nextN y) % 255 : Nat) : Int) := by rw [Int.tmod_eq_emod_of_nonneg (by omega)]; omega
      have m4 : ((nextN (nextN y) : Nat) : Int) % 255 = ((nextN (nextN y) % 255 : Nat) : Int) := by omega
      have hz : nextN (nextN y) % 255 < 255 := Nat.mod_lt _ (by omega)
      generalize nextN (nextN y) % 255 = z at *
      generalize nextN (nextN y) = y2 at *
      obtain ⟨R, hR⟩ : ∃ R, goN l (nextN y % n) n = R := ⟨_, rfl⟩
      rw [hR] at HNXT hlt2
      have HGR : Hid (goN l (nextN y % n) n = R) := hR
      clear hR
      generalize nextN y % n = p0 at *
      generalize nextN y = y1 at *
      have hne : ((n : Int) == 0) = false := by rw [beq_eq_false_iff_ne]; omega
      have hne2 : ¬ ((n : Int) = 0) := by omega
      go_wp2_with (go_at_call 22; refine (E1.out _).mono ?_; rintro e w' ⟨rfl, rfl⟩)
      clear m1 m2 E1
      generalize wr = wo at *
      go_loopg [8] n (fun gg i wi => ∃ q : Nat, q < n ∧ i = .int .i64 q ∧ Hid (FreeIn l q gg) ∧ Hid (goN l q gg = R) ∧ wi = wo)
      case atStart => exact ⟨p0, hf0, rfl, HFJ, HGR, rfl⟩
      case round =>
        obtain ⟨q, hq, rfl, HQ, HG, rfl⟩ := hrel
        have hql : q < l.length := by omega
        have hck : wr.cell? ⟨g, q, none⟩ = some (.int .u8 ((l[q] : Nat) : Int)) := by rw [HK.out.row.cell q hq, vOf_eq _ _ hql]
        have hx : l[q] < 256 := HLB.out _ (List.getElem_mem hql)
        obtain ⟨e1, e2⟩ := tmod_two q n
        have hm := Nat.mod_lt (q + 1) (show 0 < n by omega)
        have hpos : 0 < gk := FreeIn.pos HQ.out
        obtain ⟨f, rfl⟩ : ∃ f, gk = f + 1 := ⟨gk - 1, by omega⟩
        have HDD : Hid (l.getD q 0 = l[q]) := getD_get hql
        have HZ : Hid (l[q] = 0 → R = q) := fun e => by
          rw [← HG.out]; unfold goN; rw [if_pos (by rw [HDD.out]; exact e)]
        have HNN : Hid (l[q] ≠ 0 → FreeIn l ((q + 1) % n) f ∧ goN l ((q + 1) % n) f = R) := fun e => by
          have h1 := HQ.out.next hql (by rw [HDD.out]; exact e)
          have h2 := HG.out
          rw [hll] at h1
          refine ⟨h1, ?_⟩
          rw [← h2]
          conv => rhs; unfold goN
          rw [if_neg (by rw [HDD.out]; exact e), hll]
        clear HQ HG HDD
        generalize l[q] = xx at *
        by_cases hx0 : xx = 0
        · have hzx : ((xx : Int) != 0) = false := by subst hx0; rfl
          have HE := Lib.hid (HZ.out hx0)
          have HK5 : Hid (PickAt w g n (wr.setCell ⟨g, q, none⟩ (.int .u8 ((1 + z : Nat) : Int))) (S (j + 1)).2) := by
            have := HK.out.set hll hq (1 + z)
            rw [HNXT.out, HE.out]; exact this
          have HS5 : Hid ((S (j + 1)).1 = y2) := by show _ = _; rw [HNXT.out]
          have hlo := HK.out.row.loose q
          clear HZ HNN hx0 e1 e2 hne hne2
          go_wp2_with (go_at_call 22; refine (E2.out _).mono ?_; rintro e w' ⟨rfl, rfl⟩)
          go_roundw
          case rel => exact ⟨j + 1, by omega, by go_num, by rw [HS5.out], HK5⟩
          case measure => simp [intOf]; omega
        · have hzx : ((xx : Int) != 0) = true := by simp; omega
          have HE := Lib.hid (HNN.out hx0)
          clear HZ HNN hx0
          generalize (q + 1) % n = q2 at *
          go_wp2_with fail
          go_roundg f
          case rel => exact ⟨q2, hm, rfl, HE.out.1, HE.out.2, rfl⟩
          case measure => omega
    · obtain rfl : j = D := by omega
      go_wp2_with fail
      go_ret
      exact ⟨g, rfl, HK.out.row.sl (HLN.out j) (HBY.out j) (by unfold maxLen; omega), HK.out.below⟩

def RRowPost (k : Nat) (l : List Nat) (w : World) (e : Ending) (w' : World) : Prop :=
  ∃ g c, e = .returned (.slice (some ⟨g, 0, none⟩) k c) ∧ Sl w' (some ⟨g, 0, none⟩) c l ∧ Below w.heap.size w w'

set_option maxRecDepth 100000 in
set_option maxHeartbeats 2000000 in
theorem refRow_any (k id : Nat) (h1 : 1 ≤ k) (hk : k ≤ 64) (hid : id < 4294967296) (w : World) :
    Calls Try.prog 11 #[.int .i64 (k : Int), .int .u32 (id : Int)] w (RRowPost k (rowN k id) w) := by
  have hsb := spN_bound hk
  have HPI := Lib.hid (refPicks_any k id h1 hk hid w)
  have HPAR := Lib.hid (refPar_any k h1 hk)
  have HPL := Lib.hid (parRows_len k)
  have HPG := Lib.hid (parRows_get k)
  have HPN := Lib.hid (parRow_len k)
  have HNB := Lib.hid (numsN_byte k id)
  have HNL := Lib.hid (numsN_len k id)
  have HTO : Hid (∀ j, (docTo k (numsN k id) j).length = k ∧ IsByte (docTo k (numsN k id) j)) := docTo_ok (by rw [numsN_len]; omega) (numsN_byte k id)
  have HTZ : Hid (docTo k (numsN k id) 0 = (numsN k id).take k) := rfl
  have HTS : Hid (∀ j, docTo k (numsN k id) (j + 1) = plusN (docTo k (numsN k id) j) (parRow k j) ((numsN k id).getD (k + j) 0)) := fun j => rfl
  rw [row_doc]
  generalize docTo k (numsN k id) = T at *
  generalize numsN k id = l at *
  generalize parRows k = P at *
  generalize parRow k = R at *
  obtain ⟨p, hp⟩ : ∃ p, spN k + 2 = p := ⟨_, rfl⟩
  rw [hp] at HPI HPL HNL ⊢
  have hp1 : 2 ≤ p ∧ p ≤ 11 := by omega
  clear hp hsb
  obtain ⟨n, hn⟩ : ∃ n, k + p = n := ⟨_, rfl⟩
  rw [hn] at HPI HNL
  have hni : (k : Int) + (p : Int) = (n : Int) := by omega
  have hnl : k ≤ n ∧ n ≤ 100 := by omega
  have HTK : Hid ((l.take k).length = k) := by show _ = _; rw [List.length_take, HNL.out]; omega
  go_enter Try.func11, Try.ntmps11
  go_wp2_with fail
  refine HPI.out.mono ?_
  rintro e w1 ⟨gp, rfl, hs1, hb1⟩
  have HS1 := Lib.hid hs1
  have HB1 := Lib.hid hb1
  have HE1 : Hid (Rw 0 (w1.alloc (.cells #[] 5)) (some ⟨w1.heap.size, 0, none⟩) 0 []) := ⟨⟨by simp [IsByte], by simp, by simp, fun e => (by cases e), .inl rfl⟩, fun h => absurd rfl h⟩
  have HBA : Hid (Below w1.heap.size w1 (w1.alloc (.cells #[] 5))) := (Below.refl _ _).alloc (Nat.le_refl _) _
  have i1 : (0 : Int) ≤ (k : Int) := by omega
  have i2 : (k : Int) ≤ (n : Int) := by omega
  clear hs1 hb1 HPI
  go_wp2_with (at_builtin; refine wpList_appB 0 w1.heap.size 0 [] (some ⟨gp, 0, none⟩) n k (l.take k) _ rfl _ _ rfl rfl rfl HTK.out HE1.out rfl ((HS1.out.below HBA.out).firsts k) (by omega) (by rw [HTK.out]; omega) ?_; intro g2 c2 w2 HR2 hb2)
  refine (HPAR.out w2).mono ?_
  rintro e w3 ⟨v, rfl, ho, hb3⟩
  obtain ⟨va, vc, rfl, hr3⟩ := ho.rs
  have hpl := HPL.out
  have hb12 : Below w1.heap.size w1 w2 := HBA.out.trans (hb2.mono HBA.out.size)
  have HB13 : Hid (Below w1.heap.size w1 w3) := hb12.trans (hb3.mono hb12.size)
  have HB3 : Hid (Below w.heap.size w w3) := HB1.out.trans (HB13.out.mono HB1.out.size)
  have HS3 := Lib.hid (HS1.out.below HB13.out)
  have HR3 := Lib.hid hr3
  have HT3 : Hid (Sl w3 (some ⟨g2, 0, none⟩) c2 (T 0)) := by
    have := HR2.out.sl.below hb3
    rw [List.nil_append, ← HTZ.out] at this
    exact this
  have hpm : P.length ≤ 100 := by omega
  clear ho hr3 hb12 hb2 hb3 HS1 HB1 HE1 HBA HR2 HB13 HPAR
  rw [hpl]
  go_wp2_with fail
  go_loopw [6, 21] (fun o i wr => ∃ j g c : Nat, j ≤ p ∧ i = .int .i64 j ∧ o = .slice (some ⟨g, 0, none⟩) k c ∧ Hid (Sl wr (some ⟨g, 0, none⟩) c (T j)) ∧ Hid (Below w3.heap.size w3 wr)) (fun _ i _ => p - (intOf i).toNat)
  case atStart => exact ⟨0, g2, c2, by omega, rfl, by simp, HT3, Below.refl _ _⟩
  case round =>
    obtain ⟨j, g, c, hj, rfl, rfl, HO, HB⟩ := hrel
    have HBW : Hid (Below w.heap.size w wr) := HB3.out.trans (HB.out.mono HB3.out.size)
    by_cases hjp : j < p
    · have hjP : j < P.length := by omega
      have hkl : k + j < l.length := by have := HNL.out; omega
      obtain ⟨b, off, rfl, hb, hrr⟩ := (HR3.out.keep (Nat.le_refl _) (Keep.of_below HB.out)).some hjP
      obtain ⟨ai, ci, hck, hrw⟩ := hrr j hjP
      rw [HPG.out j hjP] at hck hrw
      have hrl := HPN.out j
      obtain ⟨bl, ol, el, hbl⟩ := (HS3.out.below HB.out).some hkl
      cases el
      have hck2 := hbl (k + j) hkl
      have hy : l[k + j] < 256 := HNB.out _ (List.getElem_mem hkl)
      have HSJ := Lib.hid (HTS.out j)
      rw [getD_get hkl] at HSJ
      obtain ⟨hTl, hTb⟩ := HTO.out j
      have hTl1 := (HTO.out (j + 1)).1
      have HSL := Lib.hid hrw.sl
      generalize R j = m at *
      generalize l[k + j] = y at *
      rw [Nat.zero_add] at hck2
      rw [hrl] at hck
      have c1 := cell_up hck
      have c2' := cell_up hck2
      have i3 : (0 : Int) ≤ (j : Int) := by omega
      have i4 : (j : Int) < (p : Int) := by omega
      have e1 : (k : Int) + (j : Int) = ((k + j : Nat) : Int) := by omega
      have hkn : k + j < n := by omega
      generalize k + j = kj at *
      have i5 : (0 : Int) ≤ (kj : Int) := by omega
      have i6 : (kj : Int) < (n : Int) := by omega
      have HTB := Lib.hid hTb
      clear hrr hrw hbl hTb hck hck2
      go_wp2_with fail
      refine grow_begin (by kernel_rfl) ?_
      refine grow_take (by kernel_rfl) [0, 1, 2, 3, 4, 5, 6, 7, 8, 9, 10] 2 _ _ (by kernel_rfl) ?_
      simp only [opsAt, List.getElem?_toArray, List.getElem?_cons_succ, List.getElem?_cons_zero]
      repeat (first | go_big_quiet_step (fail) | quiet_step (fail))
      refine wpQuiet_nil ?_
      intro w5 hw5
      have hb5 := below_of_up hw5
      clear c1 c2' i3 i4 i5 i6 e1
      refine grow_one 11 (by kernel_rfl) hw5 (fun K hK => ?_)
      simp only [stepOf, List.getElem?_toArray, List.getElem?_cons_succ, List.getElem?_cons_zero]
      go_simp
      go_at_call 13
      have HP : Hid (Calls Try.prog 13 #[.slice (some ⟨g, 0, none⟩) k c, .slice ai k ci, .int .u8 (y : Int)] w5 fun e w' => e = .returned (.slice (some ⟨w5.heap.size, 0, none⟩) k k) ∧ Hid (Rw 0 w' (some ⟨w5.heap.size, 0, none⟩) k (T (j + 1))) ∧ Below w5.heap.size w5 w' ∧ Below wr.heap.size wr w') := by
        have := plus_at 0 (some ⟨g, 0, none⟩) ai c ci (T j) m y w5 (by omega) hy (by omega) (HO.out.below hb5) (HSL.out.below hb5) hb5
        rw [hTl, hrl, ← HSJ.out] at this
        exact this
      refine HP.out.mono ?_
      rintro e w6 ⟨rfl, HN6, hb56, hb6⟩
      refine hK.out _ _ hb56 ?_
      clear hK K HP
      generalize w5.heap.size = g5 at *
      refine grow_take (by kernel_rfl) [12] 0 _ _ (by kernel_rfl) ?_
      simp only [opsAt, List.getElem?_toArray, List.getElem?_cons_succ, List.getElem?_cons_zero]
      repeat (first | go_big_quiet_step (fail) | quiet_step (fail))
      refine wpQuiet_nil ?_
      intro w8 hw8
      have hb8 := below_of_up hw8
      have HO8 := Lib.hid (HN6.out.sl.below hb8)
      have HB8 : Hid (Below w3.heap.size w3 w8) := HB.out.trans ((hb6.trans (hb8.mono hb6.size)).mono HB.out.size)
      refine grow_done (by kernel_rfl) ?_
      clear hb5 hw5 hw8 hb8 HN6 hb56 hb6
      go_wp2_with fail
      go_roundw
      case rel => exact ⟨j + 1, g5, k, by omega, by go_num, rfl, HO8, HB8⟩
      case measure => simp [intOf]; omega
    · obtain rfl : j = p := by omega
      go_wp2_with fail
      go_ret
      exact ⟨g, c, rfl, HO.out, HBW.out⟩
end Go.Proofs.Ytgfcpneblkleiaa
