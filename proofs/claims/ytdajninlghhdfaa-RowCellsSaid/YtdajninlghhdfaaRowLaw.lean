/-
  The law of package row's Cells, walked.
-/
import Derived.Test.YtdajninlghhdfaaRowOf
import Derived.Test.YtdajninlghhdfaaRowsIn
namespace Go.Proofs.Ytdajninlghhdfaa
open Go.ChangeShapes Go.WideShapes Go.ChangeAt Go.RowKit Go.Joins
set_option linter.unusedVariables false

theorem two_sl (w : World) (B : Nat) (h0 : w.cell? ⟨B, 0, none⟩ = some (.int .u8 0)) (h1 : w.cell? ⟨B, 1, none⟩ = some (.int .u8 3)) : Sl w (some ⟨B, 0, none⟩) 2 [0, 3] := by
  refine ⟨?_, by simp, by unfold maxLen; omega, fun e => (by cases e), .inr ⟨B, 0, rfl, fun i hi => ?_⟩⟩
  · intro n hn
    simp at hn
    omega
  · rcases i with _ | _ | i
    · exact h0
    · exact h1
    · simp at hi; omega

set_option maxRecDepth 100000 in
theorem awake8_any (w : World) : Calls Try.prog 4 #[] w fun e w' => e = .returned (.bool true) ∧ Below w.heap.size w w' := by
  have E1 : Hid (Calls Try.prog 6 #[.int .i64 1, .int .u32 0] w (OfPost 1 (rowN 1 0) w)) := of_any 1 0 (by omega) (by omega) (by omega) w
  have E2 : Hid (∀ B w', w'.cell? ⟨B, 0, none⟩ = some (.int .u8 0) → w'.cell? ⟨B, 1, none⟩ = some (.int .u8 3) → Calls Try.prog 5 #[.slice (some ⟨B, 0, none⟩) 2 2] w' (CellsPost (cellsTo [0, 3] 2) w')) := fun B w' h0 h1 => cells_any (some ⟨B, 0, none⟩) 2 [0, 3] w' (by simp) (two_sl w' B h0 h1)
  have hc : cellsTo [0, 3] 2 = [(1, 3)] := by decide
  rw [hc] at E2
  generalize rowN 1 0 = r at *
  clear hc
  go_enter Try.func4, Try.ntmps4
  go_wp2_with fail
  refine E1.out.mono ?_
  rintro e w1 ⟨g, rfl, _, _, b1⟩
  have HB1 := Lib.hid b1
  clear b1 E1
  go_wp2_with fail
  refine (E2.out _ _ (by simp) (by simp)).mono ?_
  rintro e w2 ⟨v, rfl, o2, b2⟩
  obtain ⟨a, cap, rfl, _⟩ := o2.form
  have HB2 : Hid (Below w.heap.size w w2) := (HB1.out.alloc HB1.out.size _).trans (b2.mono (by have := HB1.out.size; simp; omega))
  clear b2 o2 E2
  go_wp2_with fail
  go_ret
  exact ⟨rfl, HB2.out⟩

theorem cellsTo_lt {l : List Nat} {k : Nat} {p : Nat × Nat} (h : p ∈ cellsTo l k) : p.1 < k := (cellsTo_mem h).1
theorem cellsTo_order (l : List Nat) : ∀ k, (cellsTo l k).Pairwise fun p q => p.1 < q.1
  | 0 => by simp [cellsTo]
  | k + 1 => by
    by_cases h : l.getD k 0 = 0
    · rw [cellsTo_zero h]; exact cellsTo_order l k
    · rw [cellsTo_more h]
      refine List.pairwise_append.2 ⟨cellsTo_order l k, by simp, fun p hp q hq => ?_⟩
      rw [List.mem_singleton] at hq
      subst hq
      exact cellsTo_lt hp
theorem cellsTo_has {l : List Nat} {j : Nat} : ∀ {k : Nat}, j < k → l.getD j 0 ≠ 0 → (j, l.getD j 0) ∈ cellsTo l k := fun {k} hj h =>
  List.mem_filterMap.2 ⟨j, List.mem_range.2 hj, by rw [if_neg h]⟩

/-- The numbers that the first i cells put in. -/
def backTo (l : List Nat) (P : Cs) (i : Nat) : List Nat := (List.range l.length).map fun j => if (P.take i).any (fun p => p.1 == j) then l.getD j 0 else 0
theorem backTo_len (l : List Nat) (P : Cs) (i : Nat) : (backTo l P i).length = l.length := by simp [backTo]
theorem backTo_get (l : List Nat) (P : Cs) (i j : Nat) (h : j < (backTo l P i).length) : (backTo l P i)[j] = if (P.take i).any (fun p => p.1 == j) then l.getD j 0 else 0 := by
  simp only [backTo, List.getElem_map, List.getElem_range]
theorem backTo_start (l : List Nat) (P : Cs) : backTo l P 0 = List.replicate l.length 0 := by
  apply List.ext_getElem
  · simp [backTo]
  · intro j h1 h2
    simp [backTo]
theorem backTo_next {l : List Nat} {P : Cs} {i : Nat} (hi : i < P.length) (h2 : P[i].2 = l.getD P[i].1 0) : backTo l P (i + 1) = (backTo l P i).set P[i].1 P[i].2 := by
  apply List.ext_getElem
  · simp [backTo]
  · intro j h3 h4
    rw [backTo_get, List.getElem_set]
    have e : P.take (i + 1) = P.take i ++ [P[i]] := by rw [List.take_add_one]; simp [hi]
    rw [e, List.any_append]
    by_cases hj : P[i].1 = j
    · subst hj
      simp [h2]
    · have hj2 : (P[i].1 == j) = false := by simpa using hj
      rw [if_neg hj, backTo_get]
      simp only [List.any_cons, List.any_nil, hj2, Bool.or_false]
theorem backTo_all (l : List Nat) : backTo l (cellsTo l l.length) (cellsTo l l.length).length = l := by
  apply List.ext_getElem
  · simp [backTo]
  · intro j h1 h2
    rw [backTo_get, List.take_length]
    by_cases h : l.getD j 0 = 0
    · have : l[j] = 0 := by rw [← getD_get h2]; exact h
      rw [h, this]; simp
    · rw [if_pos]
      · exact getD_get h2
      · rw [List.any_eq_true]
        exact ⟨_, cellsTo_has h2 h, by simp⟩

/-- The cells' numbers are put into a new row, in block g; all else is as it was. -/
structure BackAt (w3 wr : World) (g n : Nat) (l : List Nat) : Prop where
  row : Row wr g 5 n n (vOf l)
  fr : Fr (fun b => b = g) w3 wr
theorem BackAt.set {w3 wr : World} {g n : Nat} {l : List Nat} (h : BackAt w3 wr g n l) (hl : l.length = n) {k : Nat} (hk : k < n) (v : Nat) : BackAt w3 (wr.setCell ⟨g, k, none⟩ (.int .u8 (v : Int))) g n (l.set k v) :=
  ⟨h.row.set_at hl hk v, h.fr.set (p := ⟨g, k, none⟩) (fun _ => rfl) _⟩
theorem BackAt.drewN {w3 wr : World} {g n : Nat} {l : List Nat} (h : BackAt w3 wr g n l) (q : Nat) : BackAt w3 (wr.drewN q) g n l :=
  ⟨h.row.drew q, ⟨h.fr.os, h.fr.tape, h.fr.output, h.fr.size, h.fr.block⟩⟩

set_option maxRecDepth 100000 in
set_option maxHeartbeats 2000000 in
theorem rowCells_walk (a : Option Addr) (cap : Nat) (l : List Nat) (w : World) (hs : Sl w a cap l) :
    Calls Try.prog 3 #[.slice a l.length cap] w (TrueAnd w) := by
  have HS := Lib.hid hs
  have HY := Lib.hid hs.byte
  have hlm := hs.lt
  have HAW := Lib.hid awake8_any
  clear hs
  by_cases hl : 5000 < l.length
  · have hlt : (5000 : Int) < (l.length : Int) := by omega
    go_enter Try.func3, Try.ntmps3
    go_wp2_with fail
    (with_reducible refine (HAW.out _).mono ?_)
    rintro e w1 ⟨rfl, b1⟩
    have HB1 := Lib.hid b1
    clear b1
    go_wp2_with fail
    (with_reducible refine (HAW.out _).mono ?_)
    rintro e w2 ⟨rfl, b2⟩
    have HB2 := Lib.hid (HB1.out.trans (b2.mono HB1.out.size))
    clear b2
    go_wp2_with fail
    go_ret
    exact ⟨rfl, HB2.out⟩
  · have hlt : ¬ (5000 : Int) < (l.length : Int) := by omega
    have hmk := make_row l.length (by omega)
    go_enter Try.func3, Try.ntmps3
    go_wp2_with fail
    (with_reducible refine (HAW.out _).mono ?_)
    rintro e w1 ⟨rfl, b1⟩
    have HB1 := Lib.hid b1
    clear b1
    clear HAW
    have HR0 : Hid (Row (w1.alloc (.cells (rowArr l.length zV) 5)) w1.heap.size 5 l.length l.length (vOf (List.replicate l.length 0))) := Row.new_whole w1 _ 5 (vOf (List.replicate l.length 0)) _ _ rfl (zeros_arr l.length)
    have HB2 : Hid (Below w.heap.size w (w1.alloc (.cells (rowArr l.length zV) 5))) := HB1.out.alloc HB1.out.size _
    have HC := Lib.hid (cells_any a cap l (w1.alloc (.cells (rowArr l.length zV) 5)) (by omega) (HS.out.below HB2.out))
    have hg2 : w1.heap.size < (w1.alloc (.cells (rowArr l.length zV) 5)).heap.size := by simp
    have hwg := HB1.out.size
    go_wp2_with fail
    clear hmk HB1
    generalize w1.alloc (.cells (rowArr l.length zV) 5) = w2 at *
    generalize w1.heap.size = g at *
    refine HC.out.mono ?_
    rintro e w3 ⟨v, rfl, o3, b3⟩
    obtain ⟨pa, pcap, rfl, hct⟩ := o3.form
    have HA3 : Hid (BackAt w3 w3 g l.length (backTo l (cellsTo l l.length) 0)) := ⟨by rw [backTo_start]; exact HR0.out.below b3 hg2, Fr.refl _ _⟩
    have HB3 : Hid (Below w.heap.size w w3) := HB2.out.trans (b3.mono HB2.out.size)
    have HC3 : Hid (∀ wr, Fr (fun b => b = g) w3 wr → Ct w2.heap.size wr pa pcap (cellsTo l l.length)) := fun wr f => hct.of_block f.size fun b hb hlt => f.block b hlt (by show ¬ (b = g); omega)
    have hgw3 : g < w3.heap.size := Nat.lt_of_lt_of_le hg2 b3.size
    have HBE : Hid (∀ wr, Fr (fun b => b = g) w3 wr → Below w.heap.size w wr) := fun wr f => HB3.out.trans (f.below HB3.out.size fun k hk e => by have e' : k = g := e; omega)
    have hplm := hct.lt
    have HMEM : Hid (∀ (i : Nat) (h : i < (cellsTo l l.length).length), (cellsTo l l.length)[i].1 < l.length ∧ l.getD (cellsTo l l.length)[i].1 0 = (cellsTo l l.length)[i].2 ∧ (cellsTo l l.length)[i].2 ≠ 0) := fun i h => cellsTo_mem (List.getElem_mem h)
    have HORD : Hid (∀ (i j : Nat) (h : i < (cellsTo l l.length).length) (h2 : j < (cellsTo l l.length).length), i < j → (cellsTo l l.length)[i].1 < (cellsTo l l.length)[j].1) := fun i j h h2 hij => List.pairwise_iff_getElem.1 (cellsTo_order l l.length) i j h h2 hij
    have HNX : Hid (∀ (i : Nat) (h : i < (cellsTo l l.length).length), backTo l (cellsTo l l.length) (i + 1) = (backTo l (cellsTo l l.length) i).set (cellsTo l l.length)[i].1 (cellsTo l l.length)[i].2) := fun i h => backTo_next h (HMEM.out i h).2.1.symm
    have HALL : Hid (backTo l (cellsTo l l.length) (cellsTo l l.length).length = l) := backTo_all l
    have HBL : Hid (∀ i, (backTo l (cellsTo l l.length) i).length = l.length) := backTo_len l _
    clear o3 b3 HC HR0 HB2 hct
    generalize cellsTo l l.length = P at *
    generalize backTo l P = T at *
    go_wp2_with fail
    go_loopw [21] (fun i wr => ∃ i' : Nat, i' ≤ P.length ∧ i = .int .i64 i' ∧ Hid (BackAt w3 wr g l.length (T i'))) (fun i _ => P.length - (intOf i).toNat)
    case atStart => exact ⟨0, by omega, rfl, HA3⟩
    case round =>
      obtain ⟨i, hi, rfl, HK⟩ := hrel
      by_cases hil : i < P.length
      · obtain ⟨b, rfl, hb1, hb2, hc1, hc2⟩ := (HC3.out wr HK.out.fr).some hil
        obtain ⟨hm1, hm2, hm3⟩ := HMEM.out i hil
        have HNI := Lib.hid (HNX.out i hil)
        have HOI : Hid (∀ (m : Nat) (h : m < P.length), m < i → P[m].1 < P[i].1) := fun m h h2 => HORD.out m i h hil h2
        generalize hPi : P[i] = p at *
        obtain ⟨pt, pc⟩ := p
        simp only at hc1 hc2 hm1 hm2 hm3 HNI HOI
        have hpc : pc < 256 := by rw [← hm2]; exact getD_lt HY.out _
        have d1 : decide ((pt : Int) < 0) = false := by simp
        have d2 : decide ((l.length : Int) ≤ (pt : Int)) = false := by simp; omega
        have d2n : decide (l.length ≤ pt) = false := by simp; omega
        have d3 : ((pc : Int) == 0) = false := by rw [beq_eq_false_iff_ne]; omega
        have i1 : (0 : Int) ≤ (pt : Int) := by omega
        have i2 : (pt : Int) < (l.length : Int) := by omega
        have i3 : (0 : Int) ≤ (i : Int) := by omega
        have i4 : (i : Int) < (P.length : Int) := by omega
        obtain ⟨vk, hcv⟩ := HK.out.row.has pt hm1
        have hlo := HK.out.row.loose pt
        have HX : Hid (BackAt w3 (wr.setCell ⟨g, pt, none⟩ (.int .u8 (pc : Int))) g l.length (T (i + 1))) := by
          show BackAt _ _ _ _ _
          rw [HNI.out]; exact HK.out.set (HBL.out i) hm1 pc
        clear hm2 hm3
        by_cases hi0 : i = 0
        · have d4 : decide ((0 : Int) < (i : Int)) = false := by simp; omega
          have d4n : decide (0 < i) = false := by simp; omega
          clear hi0
          go_wp2_with fail
          go_quiet (fail)
          go_wp2_with fail
          have q1 : (wr.drewN nq).cell? ⟨b, i * 2, none⟩ = some (.int .i64 (pt : Int)) := hc1
          have q2 : (wr.drewN nq).cell? ⟨b, i * 2 + 1, none⟩ = some (.int .u8 (pc : Int)) := hc2
          have q3 : (wr.drewN nq).cell? ⟨g, pt, none⟩ = some vk := hcv
          have q4 : (wr.drewN nq).frozen? ⟨g, pt, none⟩ = false := hlo
          have HXQ : Hid (BackAt w3 ((wr.drewN nq).setCell ⟨g, pt, none⟩ (.int .u8 (pc : Int))).drew g l.length (T (i + 1))) := (HX.out.drewN nq).drewN 1
          clear hc1 hc2 hcv hlo
          generalize wr.drewN nq = wq at *
          refine wp_region_still_tail 12 (by kernel_rfl) (by kernel_rfl) ?_
          simp only [List.take_succ_cons, List.take_zero, List.drop_succ_cons, List.drop_zero]
          repeat still_step
          refine wpStill_nil ?_
          change wpList _ _ _ _ _ wq.drew
          go_wp2
          go_roundw
          case rel => exact ⟨i + 1, by omega, by go_num, HXQ⟩
          case measure => simp [intOf]; omega
        · have d4 : decide ((0 : Int) < (i : Int)) = true := by simp; omega
          have d4n : decide (0 < i) = true := by simp; omega
          obtain ⟨m, hm⟩ : ∃ m, m = i - 1 := ⟨_, rfl⟩
          have hsub : (i : Int) - 1 = (m : Int) := by omega
          have hml : m < P.length := by omega
          have i5 : (0 : Int) ≤ (m : Int) := by omega
          have i6 : (m : Int) < (P.length : Int) := by omega
          obtain ⟨b', hbb, _, _, hc0, _⟩ := (HC3.out wr HK.out.fr).some hml
          cases hbb
          have hlt0 := HOI.out m hml (by omega)
          generalize P[m].1 = p0 at *
          have d5 : decide ((pt : Int) ≤ (p0 : Int)) = false := by simp; omega
          have d5n : decide (pt ≤ p0) = false := by simp; omega
          clear hi0 hm
          go_wp2_with fail
          go_quiet (fail)
          go_wp2_with fail
          have q1 : (wr.drewN nq).cell? ⟨b, i * 2, none⟩ = some (.int .i64 (pt : Int)) := hc1
          have q2 : (wr.drewN nq).cell? ⟨b, i * 2 + 1, none⟩ = some (.int .u8 (pc : Int)) := hc2
          have q3 : (wr.drewN nq).cell? ⟨g, pt, none⟩ = some vk := hcv
          have q4 : (wr.drewN nq).frozen? ⟨g, pt, none⟩ = false := hlo
          have HXQ : Hid (BackAt w3 ((wr.drewN nq).setCell ⟨g, pt, none⟩ (.int .u8 (pc : Int))).drew g l.length (T (i + 1))) := (HX.out.drewN nq).drewN 1
          clear hc1 hc2 hcv hlo
          generalize wr.drewN nq = wq at *
          refine wp_region_still_tail 12 (by kernel_rfl) (by kernel_rfl) ?_
          simp only [List.take_succ_cons, List.take_zero, List.drop_succ_cons, List.drop_zero]
          repeat still_step
          refine wpStill_nil ?_
          change wpList _ _ _ _ _ wq.drew
          go_wp2
          go_roundw
          case rel => exact ⟨i + 1, by omega, by go_num, HXQ⟩
          case measure => simp [intOf]; omega
      · obtain rfl : i = P.length := by omega
        have hbel := HBE.out wr HK.out.fr
        have cv1 := conv_sl wr (some ⟨g, 0, none⟩) l.length l (by have := HK.out.row; rw [HALL.out] at this; exact this.sl rfl HY.out (by unfold maxLen; omega))
        have cv2 := conv_sl wr a cap l (HS.out.below hbel)
        have HBF := Lib.hid hbel
        clear hbel
        generalize strOf l = S at *
        go_wp2_with fail
        go_ret
        exact ⟨rfl, HBF.out⟩
end Go.Proofs.Ytdajninlghhdfaa
