/-
  Equations as rows, as package solve makes them.
  slices.Repeat of one true.
  The law of package peel's Right, walked.
-/
import Derived.Test.YtacncbojplmcjaaMg16
import Derived.Laws.CopyOwn
import Derived.Laws.Bits64b
section
namespace Go.Proofs.Ytacncbojplmcjaa
open Go.ChangeShapes Go.WideShapes Go.ChangeAt Go.RowKit Go.Joins
set_option linter.unusedVariables false

def gridK (es : Eqz) (n k : Nat) : Rws := rowsOf n es k ++ List.replicate (es.length - k) []
theorem gridK_len {es : Eqz} {n k : Nat} (h : k ≤ es.length) : (gridK es n k).length = es.length := by
  unfold gridK; rw [List.length_append, rowsOf_len h, List.length_replicate]; omega
theorem gridK_set {es : Eqz} {n k : Nat} (h : k < es.length) : (gridK es n k).set k (rowOf n es[k]) = gridK es n (k + 1) := by
  unfold gridK
  have hl := rowsOf_len (n := n) (Nat.le_of_lt h)
  rw [rowsOf_next h, List.append_assoc, List.set_append_right _ _ (by omega), hl, Nat.sub_self]
  obtain ⟨d, hd⟩ : ∃ d, es.length - k = d + 1 := ⟨es.length - k - 1, by omega⟩
  have hd2 : es.length - (k + 1) = d := by omega
  rw [hd, hd2, List.replicate_succ]
  rfl
theorem gridK_end (es : Eqz) (n : Nat) : gridK es n es.length = R0 es n := by simp [gridK]
theorem Grid.new_row {B : Nat} {w0 w' : World} {g : Nat} {ls : Rws} (h : Grid B w0 g ls) {i : Nat} (hi : i < ls.length) {a : Option Addr} {c : Nat} {x : List Nat} (k : ∀ b, b < w0.heap.size → b ≠ g → w'.heap[b]? = w0.heap[b]?) (hB : Below B w0 w')
    (hg : w'.heap[g]? = (w0.setCell ⟨g, i, none⟩ (.slice a x.length c)).heap[g]?) (hx : Rw B w' a c x) : Grid B w' g (ls.set i x) := by
  have hk : Keep B w0 w' := ⟨hB.os, hB.tape, hB.output, hB.size, fun b hb hh => k b hb fun e => by
    subst e
    rcases hh with hh | hh
    · have := h.low; omega
    · exact h.other.not_byt hh⟩
  obtain ⟨vs, hr, hv⟩ := h.row
  refine ⟨h.low, fun j => if j = i then .slice a x.length c else vs j, ?_, fun j hj => ?_⟩
  · rw [List.length_set]
    obtain ⟨cs, r1, r2, r3⟩ := hr.upd i hi (.slice a x.length c)
    exact ⟨cs, hg.trans r1, r2, r3⟩
  · rw [List.length_set] at hj
    by_cases e : j = i
    · subst e
      exact ⟨a, c, by simp, by simpa using hx⟩
    · obtain ⟨a', c', e1, e2⟩ := hv j hj
      refine ⟨a', c', ?_, ?_⟩
      · simp only [e, if_false, e1]
        rw [List.getElem_set_ne (Ne.symm e)]
      · rw [List.getElem_set_ne (Ne.symm e)]; exact e2.keep hk

set_option maxRecDepth 1000000 in
set_option maxHeartbeats 8000000 in
theorem srows_any (a : Option Addr) (cap : Nat) (es : Eqz) (n : Nat) (hn : n ≤ 256) (w : World) (hs : Er w a cap es) (hm : es.length ≤ 1000) (hr : ∀ l ∈ es, ∀ c ∈ l, 0 ≤ c.1 ∧ c.1 < (n : Int)) :
    Calls Try.prog 19 #[.slice a es.length cap, .int .i64 (n : Int)] w fun e w' => ∃ g, e = .returned (.slice (some ⟨g, 0, none⟩) es.length es.length) ∧ Grid w.heap.size w' g (R0 es n) ∧ Below w.heap.size w w' := by
  have HS := Lib.hid hs
  have hmk := make_row n (by omega)
  have hmg := make_grid es.length (by omega)
  have HG0 : Hid (Grid w.heap.size (w.alloc (.cells (rowArr es.length nilV) 38)) w.heap.size (gridK es n 0)) := by
    have h := Grid.new w.heap.size es.length w (Nat.le_refl _)
    have e : gridK es n 0 = List.replicate es.length [] := by simp [gridK, rowsOf]
    rw [e]; exact h
  have HB0 : Hid (Below w.heap.size w (w.alloc (.cells (rowArr es.length nilV) 38))) := (Below.refl _ _).alloc (Nat.le_refl _) _
  clear hs
  go_enter Try.func19, Try.ntmps19
  go_wp2_with fail
  clear hmg
  obtain ⟨g, hg⟩ : ∃ g, g = w.heap.size := ⟨_, rfl⟩
  have hgB : w.heap.size ≤ g := by omega
  obtain ⟨W0, hW0⟩ : ∃ W0, W0 = w.alloc (.cells (rowArr es.length nilV) 38) := ⟨_, rfl⟩
  rw [← hW0] at HG0 HB0 ⊢
  have HG0' : Hid (Grid w.heap.size W0 g (gridK es n 0)) := by rw [hg]; exact HG0
  rw [← hg]
  clear hW0 HG0 hg
  go_loopw [15] (fun i wr => ∃ k : Nat, k ≤ es.length ∧ i = .int .i64 k ∧ Hid (Grid w.heap.size wr g (gridK es n k)) ∧ Hid (Below w.heap.size w wr)) (fun i _ => es.length - (intOf i).toNat)
  case atStart => exact ⟨0, by omega, rfl, HG0', HB0⟩
  case round =>
    obtain ⟨k, hk, rfl, HG, HB⟩ := hrel
    clear HG0' HB0
    by_cases hlt : k < es.length
    · obtain ⟨b, off, rfl, hb, a', c', hc0, hcr⟩ := er_one HS.out hlt
      have hc := (HB.out.cell (p := ⟨b, off + k, none⟩) hb).trans hc0
      have hlk := hcr.lt
      have HC := Lib.hid hcr
      have HR : Hid (∀ c ∈ es[k], 0 ≤ c.1 ∧ c.1 < (n : Int)) := hr _ (List.getElem_mem hlt)
      have HN := Lib.hid (gridK_set (n := n) hlt)
      have hgl := gridK_len (n := n) hk
      have hkz : (k : Int) < (es.length : Int) := by omega
      clear hcr hc0
      generalize es[k] = x at *
      obtain ⟨W1, rfl⟩ : ∃ x, x = wr := ⟨_, rfl⟩
      obtain ⟨ag, cg, cg0, _⟩ := HG.out.cell (i := k) (by omega)
      have zg0 := HG.out.loose k
      have hglt := HG.out.lt
      have hwsz := HB.out.size
      obtain ⟨nb, hnb⟩ : ∃ nb, nb = W1.heap.size := ⟨_, rfl⟩
      have hbn : b ≠ g := by omega
      obtain ⟨W2, hW2⟩ : ∃ W2, W2 = (W1.setCell ⟨g, k, none⟩ (.slice (some ⟨W1.heap.size, 0, none⟩) n n)).alloc (.cells (rowArr n zV) 5) := ⟨_, rfl⟩
      have hW2n : W2.heap[nb]? = some (.cells (rowArr n zV) 5 (0, 0)) := by
        rw [hW2, hnb]
        have h := heap_alloc_last (W1.setCell ⟨g, k, none⟩ (.slice (some ⟨W1.heap.size, 0, none⟩) n n)) (.cells (rowArr n zV) 5)
        simpa using h
      have hW2o : ∀ i, i < W1.heap.size → W2.heap[i]? = (W1.setCell ⟨g, k, none⟩ (.slice (some ⟨W1.heap.size, 0, none⟩) n n)).heap[i]? := fun i hi => by
        rw [hW2]
        exact Below.heap_alloc _ _ _ (by simpa using hi)
      have hB2 : Below w.heap.size w W2 := by
        rw [hW2]
        exact ((HB.out.setCell (p := ⟨g, k, none⟩) hgB _).alloc (by simp; omega) _)
      have HB2 := Lib.hid hB2
      have HO2 := Lib.hid hW2o
      have HA0 : Hid (Row W2 nb 5 n n (vOf (rowK n x 0))) := by
        refine Row.mono (Row.of_whole (g := zV) hW2n) (Nat.le_refl _) fun j hj => ?_
        unfold rowK
        rw [vOf_eq _ _ (by simp; exact hj)]
        simp [zV]
      have hszW2 : W2.heap.size = W1.heap.size + 1 := by rw [hW2]; simp
      have HF0 : Hid (Fr (fun b => b = nb) W2 W2) := Fr.refl _ _
      have hc2 : W2.cell? ⟨b, off + k, none⟩ = some (.slice a' x.length c') := (hB2.cell (p := ⟨b, off + k, none⟩) hb).trans ((HB.out.cell (p := ⟨b, off + k, none⟩) hb).symm.trans hc)
      have hcg : W2.cell? ⟨g, k, none⟩ = some (.slice (some ⟨nb, 0, none⟩) n n) := by
        rw [World.cell?_of_block (w := W1.setCell ⟨g, k, none⟩ (.slice (some ⟨W1.heap.size, 0, none⟩) n n)) (a := ⟨g, k, none⟩) (hW2o g hglt), hnb]
        exact World.cell?_setCell_same' _ _ _ (by rw [cg0]; rfl)
      have hnb1 : W1.heap.size ≤ nb := by omega
      have hnb2 : nb ≤ W1.heap.size := by omega
      have HNB := Lib.hid hnb
      have HW2 := Lib.hid hW2
      have HSZ : Hid (W2.heap.size = W1.heap.size + 1) := hszW2
      clear hW2n hW2o hB2 hnb hW2 hszW2
      go_wp2_with fail
      rw [← HW2.out, ← HNB.out]
      clear HW2 hc
      have hszW2 := HSZ.out
      have hbW2 : b < W2.heap.size := by omega
      have hgW2 : g < W2.heap.size := by omega
      go_loopw [27] (fun i wr => ∃ j : Nat, j ≤ x.length ∧ i = .int .i64 j ∧ Hid (Row wr nb 5 n n (vOf (rowK n x j))) ∧ Hid (Fr (fun b => b = nb) W2 wr)) (fun i _ => x.length - (intOf i).toNat)
      case atStart => exact ⟨0, by omega, rfl, HA0, HF0⟩
      case round =>
        obtain ⟨j, hj, rfl, HA, HF⟩ := hrel
        clear HA0 HF0
        have hsF := HF.out.size
        by_cases hlj : j < x.length
        · obtain ⟨b', off', rfl, hb', hc'⟩ := HC.out.some hlj
          obtain ⟨c0, c1⟩ := hc' j hlj
          obtain ⟨r1, r2⟩ := HR.out _ (List.getElem_mem hlj)
          have HX := Lib.hid (rowK_next (n := n) hlj)
          have hb'W : b' ≠ nb := by omega
          have hb'2 : b' < W2.heap.size := by omega
          have d0 : wr.cell? ⟨b', off' + j * 2, none⟩ = some (.int .i64 x[j].1) := (World.cell?_of_block (a := ⟨b', off' + j * 2, none⟩) (HF.out.block b' hb'2 hb'W)).trans ((HB2.out.cell (p := ⟨b', off' + j * 2, none⟩) hb').trans c0)
          have d1 : wr.cell? ⟨b', off' + j * 2 + 1, none⟩ = some (.int .u8 ((x[j].2 : Nat) : Int)) := (World.cell?_of_block (a := ⟨b', off' + j * 2 + 1, none⟩) (HF.out.block b' hb'2 hb'W)).trans ((HB2.out.cell (p := ⟨b', off' + j * 2 + 1, none⟩) hb').trans c1)
          have dg : wr.cell? ⟨g, k, none⟩ = some (.slice (some ⟨nb, 0, none⟩) n n) := (World.cell?_of_block (a := ⟨g, k, none⟩) (HF.out.block g hgW2 (by omega))).trans hcg
          obtain ⟨p, hp⟩ : ∃ p : Nat, x[j].1 = (p : Int) := ⟨x[j].1.toNat, by omega⟩
          have hpt : x[j].1.toNat = p := by omega
          rw [hpt] at HX
          obtain ⟨y, hy⟩ : ∃ y : Nat, y = x[j].2 := ⟨_, rfl⟩
          rw [hp] at d0 r2
          rw [← hy] at d1 HX
          have hpn : p < n := by omega
          have hpz : (p : Int) < (n : Int) := by omega
          have hjz : (j : Int) < (x.length : Int) := by omega
          clear hc' c0 c1 hp hpt hy r1
          obtain ⟨W3, rfl⟩ : ∃ z, z = wr := ⟨_, rfl⟩
          obtain ⟨wd, hwd⟩ : ∃ wd, wd = (W3.alloc (.cells #[.int .i64 (p : Int), .int .u8 (y : Int)] 42)).drew := ⟨_, rfl⟩
          have e4 : wd.heap[W3.heap.size]? = some (.cells #[.int .i64 (p : Int), .int .u8 (y : Int)] 42 (0, 0)) := by rw [hwd]; exact heap_alloc_last W3 _
          have e0 : wd.cell? ⟨W3.heap.size, 0, none⟩ = some (.int .i64 (p : Int)) := by rw [cell_of_block e4]; rfl
          have e1 : wd.cell? ⟨W3.heap.size, 1, none⟩ = some (.int .u8 (y : Int)) := by rw [cell_of_block e4]; rfl
          have e2 : W3.heap.size < wd.heap.size := (Array.getElem?_eq_some_iff.1 e4).1
          have HBL : Hid (Below W3.heap.size W3 wd) := by rw [hwd]; exact ((Below.refl _ _).alloc (Nat.le_refl _) _).drew
          have HAd := Lib.hid (HA.out.below HBL.out HA.out.lt)
          have HFd := Lib.hid (HF.out.later HBL.out)
          have hgd : g < wd.heap.size := by omega
          have eg : wd.cell? ⟨g, k, none⟩ = some (.slice (some ⟨nb, 0, none⟩) n n) := (HBL.out.cell (p := ⟨g, k, none⟩) (by show g < _; omega)).trans dg
          obtain ⟨uu, hu⟩ := HAd.out.has p hpn
          have zu := HAd.out.loose p
          have t0 : ∀ u : KeepW wd (fun _ => False), u.v.cell? ⟨W3.heap.size, 0, none⟩ = some (.int .i64 (p : Int)) := fun u => (u.cell e2 (fun h => h)).trans e0
          have t1 : ∀ u : KeepW wd (fun _ => False), u.v.cell? ⟨W3.heap.size, 1, none⟩ = some (.int .u8 (y : Int)) := fun u => (u.cell e2 (fun h => h)).trans e1
          have tg : ∀ u : KeepW wd (fun _ => False), u.v.cell? ⟨g, k, none⟩ = some (.slice (some ⟨nb, 0, none⟩) n n) := fun u => (u.cell hgd (fun h => h)).trans eg
          have HAN : Hid (Row (wd.setCell ⟨nb, p, none⟩ (.int .u8 (y : Int))) nb 5 n n (vOf (rowK n x (j + 1)))) := by
            rw [HX.out]
            refine HAd.out.set_eq p hpn _ fun i hi => ?_
            have hl := rowK_len n x j
            by_cases e : i = p
            · rw [if_pos e, e, vOf_eq _ _ (by rw [List.length_set, hl]; exact hpn)]; simp
            · rw [if_neg e, vOf_eq _ _ (by rw [List.length_set, hl]; exact hi), vOf_eq _ _ (by rw [hl]; exact hi), List.getElem_set_ne (Ne.symm e)]
          have HFN : Hid (Fr (fun b => b = nb) W2 (wd.setCell ⟨nb, p, none⟩ (.int .u8 (y : Int)))) := HFd.out.set (p := ⟨nb, p, none⟩) (fun _ => rfl) _
          clear e0 e1 e2 e4 HAd HFd HBL dg eg HX HA HF hgd
          go_wp2_with fail
          refine growK_begin 9 (fun w' => ∃ u : KeepW wd (fun _ => False), w' = u.v) (by kernel_rfl) ?_
          rw [← hwd]
          clear hwd
          refine growK_take (by kernel_rfl) [0, 1, 2, 3, 4, 5, 6, 7, 8] 1 _ _ (by kernel_rfl) _ (keep_class (Fr.refl _ _)) ?_
          simp only [opsAt, List.getElem?_toArray, List.getElem?_cons_succ, List.getElem?_cons_zero]
          repeat (first | go_big_quiet_step (fail) | quiet_step (fail))
          refine wpQuiet_nil ?_
          clear t0 t1 tg
          refine growK_last (by kernel_rfl) (by kernel_rfl) (fun K hK => ?_)
          simp only [stepOf, List.getElem?_toArray, List.getElem?_cons_succ, List.getElem?_cons_zero]
          go_simp
          refine hK.out _ _ ?_
          clear hK K
          go_wp2_with fail
          go_roundw
          case rel => exact ⟨j + 1, by omega, by go_num, HAN, HFN⟩
          case measure => simp [intOf]; omega
        · obtain rfl : j = x.length := by omega
          have hbt : IsByte (rowOf n x) := rowK_byte (fun c hc => (HC.out.rng c hc).2.2) _ (Nat.le_refl _)
          have hlr : (rowOf n x).length = n := rowK_len _ _ _
          have hx : Rw w.heap.size wr (some ⟨nb, 0, none⟩) n (rowOf n x) := ⟨HA.out.sl hlr hbt (by unfold maxLen; omega), fun _ p hp => by
            cases hp
            obtain ⟨cs, h1, _, _⟩ := HA.out
            exact .inr ⟨cs, _, h1⟩⟩
          have hnW : ∀ i, i < W1.heap.size → wr.heap[i]? = (W1.setCell ⟨g, k, none⟩ (.slice (some ⟨W1.heap.size, 0, none⟩) n n)).heap[i]? := fun i hi => (HF.out.block i (by omega) (by omega)).trans (HO2.out i hi)
          have hBF : Below w.heap.size w wr := HB2.out.trans (HF.out.below (by omega) fun i hi e => by omega)
          have HGN : Hid (Grid w.heap.size wr g (gridK es n (k + 1))) := by
            rw [← HN.out]
            refine Grid.new_row HG.out (i := k) (by omega) (a := some ⟨nb, 0, none⟩) (c := n) (fun i hi hne => ?_) ?_ ?_ (by exact hx)
            · rw [hnW i hi]; exact Below.heap_setCell _ _ _ _ hne
            · refine ⟨hBF.os.trans HB.out.os.symm, hBF.tape.trans HB.out.tape.symm, hBF.output.trans HB.out.output.symm, by omega, fun i hi => ?_⟩
              rw [hnW i (by omega)]
              exact Below.heap_setCell _ _ _ _ (by show i ≠ g; omega)
            · rw [hlr, hnW g hglt, HNB.out]
          have HBN := Lib.hid hBF
          clear hx hnW hBF hbt hlr HA HF HG HB HB2 HO2 HC HR HN
          go_wp2_with fail
          go_roundw
          case rel => exact ⟨k + 1, by omega, by go_num, HGN, HBN⟩
          case measure => simp [intOf]; omega
    · obtain rfl : k = es.length := by omega
      have HG2 : Hid (Grid w.heap.size wr g (R0 es n)) := by rw [← gridK_end]; exact HG
      go_wp2_with fail
      go_ret
      exact ⟨g, rfl, HG2.out, HB.out⟩
end Go.Proofs.Ytacncbojplmcjaa
end

section
namespace Go.Proofs.Ytacncbojplmcjaa
open Go.ChangeShapes Go.WideShapes Go.ChangeAt Go.RowKit Go.Joins
set_option linter.unusedVariables false

set_option maxRecDepth 100000 in
theorem mul64_one (n : Nat) (hn : n ≤ 1000000) (w : World) : Calls Try.prog 52 #[.int .u64 1, .int .u64 (n : Int)] w fun e w' => e = .returned (.tuple #[.int .u64 0, .int .u64 (n : Int)]) ∧ w = w' := by
  have m0 : bits .and .u64 0 4294967295 = 0 := by kernel_rfl
  have m1 : bits .and .u64 1 4294967295 = 1 := by kernel_rfl
  have m2 : bits .and .u64 (n : Int) 4294967295 = (n : Int) := by
    have h := bits_and_u64_nat n 4294967295 (by omega) (by omega)
    have e : n &&& 4294967295 = n % 4294967296 := Nat.and_two_pow_sub_one_eq_mod n 32
    rw [e, Nat.mod_eq_of_lt (by omega)] at h
    exact h
  have d1 : (n : Int) / 4294967296 = 0 := by omega
  have w0 : IntKind.u64.wrap 0 = 0 := by kernel_rfl
  have w1 : IntKind.u64.wrap (n : Int) = (n : Int) := by rw [IntKind.wrap_u64]; omega
  go_enter Try.func52, Try.ntmps52
  go_wp2_with fail
  go_ret2
  exact ⟨rfl, rfl⟩

set_option maxRecDepth 100000 in
theorem mul_one_any (n : Nat) (hn : n ≤ 1000000) (w : World) : Calls Try.prog 40 #[.int .u64 1, .int .u64 (n : Int)] w fun e w' => e = .returned (.tuple #[.int .u64 0, .int .u64 (n : Int)]) ∧ w = w' := by
  have H := Lib.hid (mul64_one n hn w)
  go_enter Try.func40, Try.ntmps40
  go_wp2_with fail
  (with_reducible refine H.out.mono ?_)
  rintro e w' ⟨rfl, rfl⟩
  go_wp2_with fail
  go_ret2
  exact ⟨rfl, rfl⟩

/-- n cells, the first k of them true. -/
def TF (n k : Nat) : List Value := (List.range n).map fun j => .bool (decide (j < k))
theorem TF_len (n k : Nat) : (TF n k).length = n := by simp [TF]
theorem TF_start (n : Nat) : rowArr n (bV fun _ => false) = (TF n 0).toArray := by simp [rowArr, TF, bV]
theorem TF_all (n : Nat) : (TF n n).toArray = rowArr n (bV fun _ => true) := by
  unfold TF rowArr bV
  congr 1
  apply List.map_congr_left
  intro j hj
  simp [List.mem_range.1 hj]
theorem TF_false {n k i : Nat} (h : i < (TF n k).length) (hk : k ≤ i) : (TF n k)[i] = .bool false := by
  simp [TF]; omega
theorem TF_next {n k c : Nat} (h : k + c ≤ n) : splice (TF n k) k (List.replicate c (.bool true)) = TF n (k + c) := by
  unfold splice
  apply List.ext_getElem
  · simp [TF_len]; omega
  · intro j h1 h2
    rw [TF_len] at h2
    by_cases hk : j < k
    · rw [List.getElem_append_left (by rw [List.length_take, TF_len]; omega), List.getElem_take]
      simp [TF, hk, show j < k + c by omega]
    · rw [List.getElem_append_right (by rw [List.length_take, TF_len]; omega)]
      by_cases hc : j < k + c
      · rw [List.getElem_append_left (by rw [List.length_take, TF_len, List.length_replicate]; omega)]
        simp [TF, hc]
      · rw [List.getElem_append_right (by rw [List.length_take, TF_len, List.length_replicate]; omega)]
        rw [List.getElem_drop, TF_false, TF_false]
        · omega
        · rw [List.length_replicate]; omega
theorem TF_cell {w : World} {g n k : Nat} (h : w.heap[g]? = some (.cells (TF n k).toArray 4 (0, 0))) {j c : Nat} (hc : c ≤ k) (hn : c ≤ n) {v : Value} (hj : (List.replicate c (Value.bool true))[j]? = some v) : w.cell? ((⟨g, 0, none⟩ : Addr).add j) = some v := by
  obtain ⟨hlt, e⟩ := List.getElem?_eq_some_iff.1 hj
  rw [List.getElem_replicate] at e
  rw [List.length_replicate] at hlt
  have hadd : (⟨g, 0, none⟩ : Addr).add j = ⟨g, j, none⟩ := by
    by_cases j0 : j = 0
    · subst j0; simp [Addr.add]
    · simp [Addr.add, j0]
  rw [hadd, cell_of_block h, ← e]
  simp [TF, show j < n by omega, show j < k by omega]

set_option maxRecDepth 1000000 in
set_option maxHeartbeats 4000000 in
theorem repeat_any (g0 n : Nat) (hn : n ≤ 1000) (w : World) (h0 : w.cell? ⟨g0, 0, none⟩ = some (.bool true)) :
    Calls Try.prog 29 #[.slice (some ⟨g0, 0, none⟩) 1 1, .int .i64 (n : Int)] w fun e w' => e = .returned (.slice (some ⟨w.heap.size, 0, none⟩) n n) ∧ Row w' w.heap.size 4 n n (bV fun _ => true) ∧ Below w.heap.size w w' := by
  have HM := Lib.hid (mul_one_any n (by omega))
  have hmk := make_bools n (by omega) w
  have hg0 : g0 < w.heap.size := World.block_lt_of_cell? w _ h0
  have HB0 := Lib.hid ((Below.refl w.heap.size w).alloc (Nat.le_refl _) (.cells (rowArr n (bV fun _ => false)) 4))
  have HG0 : Hid ((w.alloc (.cells (rowArr n (bV fun _ => false)) 4)).heap[w.heap.size]? = some (.cells (TF n 0).toArray 4 (0, 0))) := by
    show _ = _
    rw [← TF_start]; exact heap_alloc_new w _
  have H1 : Hid ((w.alloc (.cells (rowArr n (bV fun _ => false)) 4)).cell? ⟨g0, 0, none⟩ = some (.bool true)) := (HB0.out.cell (p := ⟨g0, 0, none⟩) hg0).trans h0
  obtain ⟨c1, hc1⟩ : ∃ c1, c1 = min 1 n := ⟨_, rfl⟩
  have HS : Hid (∀ j v, (List.replicate (c1) (Value.bool true))[j]? = some v → (w.alloc (.cells (rowArr n (bV fun _ => false)) 4)).cell? ((⟨g0, 0, none⟩ : Addr).add j) = some v) := fun j v hj => by
    obtain ⟨hlt, e⟩ := List.getElem?_eq_some_iff.1 hj
    rw [List.getElem_replicate] at e
    rw [List.length_replicate] at hlt
    obtain rfl : j = 0 := by omega
    rw [← e]
    simpa [Addr.add] using H1.out
  have HN : Hid (splice (TF n 0) 0 (List.replicate (c1) (.bool true)) = TF n c1) := by
    have := TF_next (n := n) (k := 0) (c := c1) (by omega)
    rwa [Nat.zero_add] at this
  have HCL : Hid ((List.replicate (c1) (Value.bool true)).length = Nat.min 1 n) := by show _ = min 1 n; rw [List.length_replicate, hc1]
  have HPOS : Hid (0 < (List.replicate (c1) (Value.bool true)).length → (some (⟨w.heap.size, 0, none⟩ : Addr)) = some ⟨w.heap.size, 0, none⟩ ∧ ∃ ad, (some (⟨g0, 0, none⟩ : Addr)) = some ad ∧ ∀ j v, (List.replicate (c1) (Value.bool true))[j]? = some v → (w.alloc (.cells (rowArr n (bV fun _ => false)) 4)).cell? (ad.add j) = some v) := fun _ => ⟨rfl, _, rfl, HS.out⟩
  have HFIT : Hid (0 + (List.replicate (c1) (Value.bool true)).length ≤ (TF n 0).length) := by show _ ≤ _; rw [TF_len, List.length_replicate]; omega
  have H1C : Hid (∀ v ∈ List.replicate (c1) (Value.bool true), v.oneCell' = true) := fun v hv => by rw [(List.mem_replicate.1 hv).2]; rfl
  have hlen1 : (List.replicate (c1) (Value.bool true)).length = c1 := by simp
  have dn : ¬ (n : Int) < 0 := by omega
  generalize List.replicate (c1) (Value.bool true) = cs at *
  generalize w.alloc (.cells (rowArr n (bV fun _ => false)) 4) = w1 at *
  have hc2 : c1 ≤ n := by omega
  have hc3 : c1 = 0 → n = 0 := by omega
  clear hc1
  go_enter Try.func29, Try.ntmps29
  go_wp2_with fail
  (with_reducible refine (HM.out w).mono ?_)
  rintro e w' ⟨rfl, rfl⟩
  go_wp2_with ((with_reducible refine wpList_copy_splice rfl (.tmp 31) (.tmp 32) 75 75 rfl 4 Try.underlying75 (by kernel_rfl) (some ⟨w.heap.size, 0, none⟩) (some ⟨g0, 0, none⟩) n n 1 1 rfl rfl w.heap.size 0 (TF n 0) 4 HG0.out cs HCL.out (fun h => ⟨rfl, (HPOS.out h).2⟩) HFIT.out H1C.out w.heap.size w HB0.out (Nat.le_refl _) ?_); intro w2 HW2 b2; rw [HN.out] at HW2; have HB2 := Lib.hid b2; clear b2)
  clear HG0 HCL HPOS HFIT H1C HB0 hmk H1 HS HN hlen1 h0 hg0
  go_loopw [8] (fun v wr => ∃ k : Nat, k ≤ n ∧ (k = 0 → n = 0) ∧ v = .int .i64 k ∧ Hid (wr.heap[w.heap.size]? = some (.cells (TF n k).toArray 4 (0, 0))) ∧ Hid (Below w.heap.size w wr)) (fun v _ => n - (intOf v).toNat)
  case atStart => exact ⟨c1, hc2, hc3, rfl, HW2, HB2⟩
  case round =>
    obtain ⟨k, hk, hk0, rfl, HW, HB⟩ := hrel
    clear HW2 HB2
    by_cases hlt : k < n
    · obtain ⟨c, hc⟩ : ∃ c, c = min k (n - k) := ⟨_, rfl⟩
      have HCL : Hid ((List.replicate c (Value.bool true)).length = Nat.min k (n - k)) := by show _ = min k (n - k); rw [List.length_replicate, hc]
      have HWd : Hid (wr.drew.heap[w.heap.size]? = some (.cells (TF n k).toArray 4 (0, 0))) := HW.out
      have HBd := Lib.hid HB.out.drew
      have HSRC : Hid (∀ j v, (List.replicate c (Value.bool true))[j]? = some v → wr.drew.cell? ((⟨w.heap.size, 0, none⟩ : Addr).add j) = some v) := fun j v hj => TF_cell HWd.out (by omega) (by omega) hj
      have HFIT : Hid (k + (List.replicate c (Value.bool true)).length ≤ (TF n k).length) := by show _ ≤ _; rw [TF_len, List.length_replicate]; omega
      have H1C : Hid (∀ v ∈ List.replicate c (Value.bool true), v.oneCell' = true) := fun v hv => by rw [(List.mem_replicate.1 hv).2]; rfl
      have hlen1 : (List.replicate c (Value.bool true)).length = c := by simp
      have HN : Hid (splice (TF n k) k (List.replicate c (.bool true)) = TF n (k + c)) := TF_next (by omega)
      have hcn : k + c ≤ n := by omega
      have hc0 : 0 < c := by omega
      clear hc
      generalize List.replicate c (Value.bool true) = cs at *
      go_wp2_with fail
      have j1 : (0 : Int) ≤ (k : Int) := by omega
      have j2 : (k : Int) ≤ (n : Int) := by omega
      have j3 : ¬ n = k := by omega
      have j4 : IntKind.i64.wrap ((k : Int) + (c : Int)) = (k : Int) + (c : Int) := IntWalk.i64_in _ (by omega)
      refine growW_begin (C := fun w' => ∃ p : LowW w, w' = p.v) (by kernel_rfl) (low_class HBd.out) ?_
      refine growW_take (by kernel_rfl) [0, 1, 2, 3, 4, 5, 6] 3 _ _ (by kernel_rfl) _ (low_class HBd.out) ?_
      simp only [opsAt, List.getElem?_toArray, List.getElem?_cons_succ, List.getElem?_cons_zero]
      generalize wr.drew = wd at *
      repeat (first | go_big_quiet_step (fail) | quiet_step (fail))
      refine wpQuiet_nil ?_
      refine growW_one 7 (by kernel_rfl) (fun K hK => ?_)
      simp only [stepOf, List.getElem?_toArray, List.getElem?_cons_succ, List.getElem?_cons_zero]
      refine step_copy_splice (a := ⟨_, []⟩) rfl (.tmp 41) (.tmp 44) 75 75 rfl 4 Try.underlying75 (by kernel_rfl) (some ⟨w.heap.size, k, none⟩) (some ⟨w.heap.size, 0, none⟩) (n - k) (n - k) k n rfl rfl w.heap.size k (TF n k) 4 HWd.out cs HCL.out (fun _ => ⟨rfl, _, rfl, HSRC.out⟩) HFIT.out H1C.out w.heap.size w HBd.out (Nat.le_refl _) ?_
      intro w3 HW3 b3
      rw [HN.out] at HW3
      rw [hlen1]
      have HB3 := Lib.hid b3
      refine hK.out _ _ (low_class b3) ?_
      refine growW_take (by kernel_rfl) [8, 9] 0 _ _ (by kernel_rfl) _ (low_class b3) ?_
      clear b3
      simp only [opsAt, List.getElem?_toArray, List.getElem?_cons_succ, List.getElem?_cons_zero]
      repeat (first | go_big_quiet_step (fail) | quiet_step (fail))
      refine wpQuiet_nil ?_
      refine growW_done (by kernel_rfl) ?_
      go_wp2_with fail
      go_roundw
      case rel => exact ⟨k + c, hcn, by omega, by go_num, HW3, HB3⟩
      case measure => simp [intOf]; omega
    · obtain rfl : k = n := by omega
      have HR : Hid (Row wr w.heap.size 4 k k (bV fun _ => true)) := by
        have := HW.out
        rw [TF_all] at this
        exact Row.of_whole this
      go_wp2_with fail
      go_ret
      exact ⟨rfl, HR.out, HB.out⟩
end Go.Proofs.Ytacncbojplmcjaa
end

section
namespace Go.Proofs.Ytacncbojplmcjaa
open Go.ChangeShapes Go.WideShapes Go.ChangeAt Go.RowKit Go.Joins
set_option linter.unusedVariables false


end Go.Proofs.Ytacncbojplmcjaa
end
