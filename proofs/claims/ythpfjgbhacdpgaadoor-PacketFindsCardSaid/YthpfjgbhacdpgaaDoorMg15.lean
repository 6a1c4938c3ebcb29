/-
  Package packet: how many bytes a packet says it has.
  Packets that came in.
  Layer 14's law functions: few; same, of one packet twice.
  Package packet: bytes copied into cells of a row; slices' sums that are read.
-/
import Derived.Test.YthpfjgbhacdpgaaDoorMg14
import Derived.SizedLaws
import Derived.Deep.Slices
import Derived.Lib.SmallJoins
import Derived.Deep.DeepCutAuto
import Derived.Laws.CopyRow
import Derived.Laws.IdiomCopy
section
namespace Go.Proofs.YthpfjgbhacdpgaaDoor
open Go.ChangeShapes Go.WideShapes Go.ChangeAt Go.RowKit Go.Joins
set_option linter.unusedVariables false

set_option maxRecDepth 100000 in
theorem equal_sl (a : Option Addr) (c : Nat) (l : List Nat) (a2 : Option Addr) (c2 : Nat) (m : List Nat) (w : World) (h : Sl w a c l) (h2 : Sl w a2 c2 m) :
    Calls Tryd.prog 81 #[.slice a l.length c, .slice a2 m.length c2] w fun e w' => e = .returned (.bool (decide (l = m))) ∧ w = w' := by
  have e1 := conv_sl w a c l h
  have e2 := conv_sl w a2 c2 m h2
  have HR := Lib.hid (str_beq h.byte h2.byte)
  clear h h2
  go_enter Tryd.func81, Tryd.ntmps81
  go_wp2_with fail
  go_ret
  exact ⟨ret_bool HR.out, rfl⟩
set_option maxRecDepth 100000 in
theorem prefix_any (a : Option Addr) (c : Nat) (l : List Nat) (a2 : Option Addr) (c2 : Nat) (m : List Nat) (w : World) (h : Sl w a c l) (h2 : Sl w a2 c2 m) (hm : m.length ≤ l.length) :
    Calls Tryd.prog 62 #[.slice a l.length c, .slice a2 m.length c2] w fun e w' => e = .returned (.bool (decide (l.take m.length = m))) ∧ w = w' := by
  have hf := h.front m.length
  have HE := Lib.hid (equal_sl a c (l.take m.length) a2 c2 m w hf h2)
  rw [List.length_take, Nat.min_eq_left hm] at HE
  have hc := cut_front h m.length hm
  have hl1 := h.lt
  have hl2 := h2.lt
  have d1 : decide ((m.length : Int) ≤ (l.length : Int)) = true := decide_eq_true (by omega)
  have hmz : (m.length : Int) ≤ (l.length : Int) := by omega
  obtain ⟨R, hR⟩ : ∃ R, R = decide (l.take m.length = m) := ⟨_, rfl⟩
  rw [← hR] at HE ⊢
  clear h h2 hf hR
  go_enter Tryd.func62, Tryd.ntmps62
  go_wp2_with fail
  (with_reducible refine HE.out.mono ?_)
  rintro e w' ⟨rfl, rfl⟩
  go_wp2_with fail
  go_ret
  exact ⟨rfl, rfl⟩

/-- b[i:j]. -/
theorem cut_mid {w : World} {b off c : Nat} {l : List Nat} (h : Sl w (some ⟨b, off, none⟩) c l) (i j : Nat) (hij : i ≤ j) (hj : j ≤ l.length) (hi : i < l.length) (I J : Int) (hI : I = (i : Int)) (hJ : J = (j : Int)) :
    (∀ W, (Instr.slice 28 (.slice (some ⟨b, off, none⟩) l.length c) (some (.int .i64 I)) (some (.int .i64 J)) none).run Tryd.prog W = .ok (.slice (some ⟨b, off + i, none⟩) (j - i) (c - i)) W) ∧ Sl w (some ⟨b, off + i, none⟩) (c - i) ((l.drop i).take (j - i)) := by
  subst hI hJ
  have hc := h.len
  refine ⟨fun W => ?_, (h.back i (by omega)).front (j - i)⟩
  rw [run_slice_lh W 28 (some ⟨b, off, none⟩) l.length c und8 .i64 .i64 _ _ (by omega) (by omega) (by omega), elem8, Tryd.sizeOf5]
  have e2 : (⟨b, off, none⟩ : Addr).add i = ⟨b, off + i, none⟩ := by
    by_cases n0 : i = 0
    · subst n0; simp [Addr.add]
    · simp [Addr.add, n0]
  simp [Result.andThen, sliced, show ¬ (c = i) by omega, e2]
theorem mid_len {l : List Nat} {i j : Nat} (hj : j ≤ l.length) : ((l.drop i).take (j - i)).length = j - i := by rw [List.length_take, List.length_drop]; omega

set_option maxRecDepth 1000000 in
set_option maxHeartbeats 2000000 in
theorem claimed_any (a : Option Addr) (c : Nat) (l : List Nat) (w : World) (hs : Sl w a c l) (hl : l.length ≤ 60000) :
    Calls Tryd.prog 35 #[.slice a l.length c] w fun e w' => e = .returned (.int .i64 (claimN l : Int)) ∧ Below w.heap.size w w' := by
  have mixed : Tryd.prog.follows .mixedOrders = true := by kernel_rfl
  have hlm := hs.lt
  have hcm : c ≤ 9223372036854775807 := by have := hs.most; unfold maxLen at this; omega
  by_cases g : l.length ≤ 48
  · have d1 : decide ((l.length : Int) ≤ 48) = true := decide_eq_true (by omega)
    have HR : Hid (claimN l = 0) := by show _ = _; unfold claimN; rw [if_neg (by omega)]
    clear hs
    go_enter Tryd.func35, Tryd.ntmps35
    go_wp2_with fail
    go_ret
    exact ⟨by rw [HR.out]; rfl, Below.refl _ _⟩
  · have d1 : decide ((l.length : Int) ≤ 48) = false := decide_eq_false (by omega)
    obtain ⟨b, off, rfl, _⟩ := hs.some (k := 0) (by omega)
    have HS := Lib.hid hs
    have hcc := Go.Lib.run_convert_bytes_const (P := Tryd.prog) w 28 5 #[.int .u8 71, .int .u8 89, .int .u8 83, .int .u8 49] 4 4 Tryd.underlying28 Tryd.underlying5
    have hG : (w.alloc (.cells #[.int .u8 71, .int .u8 89, .int .u8 83, .int .u8 49] 5 (4, 5))).heap[w.heap.size]? = some (.cells #[.int .u8 71, .int .u8 89, .int .u8 83, .int .u8 49] 5 (4, 5)) := heap_alloc_last w _
    have HB1 : Hid (Below w.heap.size w (w.alloc (.cells #[.int .u8 71, .int .u8 89, .int .u8 83, .int .u8 49] 5 (4, 5)))) := (Below.refl _ _).alloc (Nat.le_refl _) _
    have HG : Hid (Sl (w.alloc (.cells #[.int .u8 71, .int .u8 89, .int .u8 83, .int .u8 49] 5 (4, 5))) (some ⟨w.heap.size, 0, none⟩) 4 [71, 89, 83, 49]) := by
      refine ⟨by intro x hx; simp at hx; omega, by simp, by unfold maxLen; simp, fun e => (by cases e), .inr ⟨w.heap.size, 0, rfl, fun j hj => ?_⟩⟩
      have hj4 : j < 4 := hj
      rw [cell_of_row _ _ _ _ _ _ hG]
      match j, hj4 with
      | 0, _ => rfl
      | 1, _ => rfl
      | 2, _ => rfl
      | 3, _ => rfl
    have HP : Hid (Calls Tryd.prog 62 #[.slice (some ⟨b, off, none⟩) l.length c, .slice (some ⟨w.heap.size, 0, none⟩) 4 4] (w.alloc (.cells #[.int .u8 71, .int .u8 89, .int .u8 83, .int .u8 49] 5 (4, 5))) fun e w' => e = .returned (.bool (decide (l.take 4 = [71, 89, 83, 49]))) ∧ (w.alloc (.cells #[.int .u8 71, .int .u8 89, .int .u8 83, .int .u8 49] 5 (4, 5))) = w') :=
      prefix_any _ c l _ 4 [71, 89, 83, 49] _ (HS.out.below HB1.out) HG.out (by simp only [List.length_cons, List.length_nil]; omega)
    obtain ⟨w1, hw1⟩ : ∃ w1, w1 = w.alloc (.cells #[.int .u8 71, .int .u8 89, .int .u8 83, .int .u8 49] 5 (4, 5)) := ⟨_, rfl⟩
    have HS1 : Hid (Sl w1 (some ⟨b, off, none⟩) c l) := by show Sl _ _ _ _; rw [hw1]; exact HS.out.below HB1.out
    have HCLQ : Hid (¬ l.take 4 = [71, 89, 83, 49] → claimN l = 0) := fun q => by unfold claimN; rw [if_neg (fun h => q h.2.1)]
    obtain ⟨R, hR⟩ : ∃ R, R = claimN l := ⟨_, rfl⟩
    rw [← hR] at HCLQ ⊢
    have HRE := Lib.hid hR
    have hw1 := Lib.hid hw1
    clear hs hG HG HS hR
    by_cases q : l.take 4 = [71, 89, 83, 49]
    · rw [decide_eq_true q] at HP
      go_enter Tryd.func35, Tryd.ntmps35
      go_upto_region 3 with (go_at_call 62; (with_reducible refine HP.out.mono ?_); rintro e w' ⟨rfl, rfl⟩)
      clear hcc HP
      obtain ⟨k1, k2⟩ := cut_mid HS1.out 4 48 (by omega) (by omega) (by omega) 4 48 rfl rfl
      have k1' : ∀ W, (Instr.slice 28 (.slice (some ⟨b, off, none⟩) l.length c) (some (.int .i64 4)) (some (.int .i64 48)) none).run Tryd.prog W = .ok (.slice (some ⟨b, off + 4, none⟩) 44 (c - 4)) W := k1
      have hml : ((l.drop 4).take 44).length = 44 := by rw [List.length_take, List.length_drop]; omega
      have HN : Hid (Calls Tryd.prog 36 #[.slice (some ⟨b, off + 4, none⟩) 44 (c - 4)] w1 fun e w' => ∃ b X, e = .returned (.pointer (some ⟨b, 0, none⟩)) ∧ InAt w1.heap.size X w' b (some ((l.drop 4).take 44)) ∧ Below w1.heap.size w1 w') := by
        have h := inNew_any w1 (some ⟨b, off + 4, none⟩) (c - 4) _ k2 (by rw [show 48 - 4 = 44 by rfl, hml]; omega)
        rw [show 48 - 4 = 44 by rfl, hml] at h
        exact h
      have HA : Hid (ansN (some ((l.drop 4).take 44)) 4 = saidN l) := by
        have h1 : ((l.drop 4).take 44) = ((l.drop 4).take 4) ++ (((l.drop 4).take 44).drop 4) := by
          have := List.take_append_drop 4 ((l.drop 4).take 44)
          rw [List.take_take] at this
          exact this.symm
        have h2 : ((l.drop 4).take 4).length = 4 := by rw [List.length_take, List.length_drop]; omega
        show _ = _
        unfold ansN gN
        rw [if_pos ⟨by omega, by omega⟩, h1]
        have := take_app ((l.drop 4).take 4) (((l.drop 4).take 44).drop 4)
        rw [h2] at this
        rw [show (4 : Int) = ((4 : Nat) : Int) by rfl, this]
        rfl
      have hsl : saidN l < 4294967296 := by
        unfold saidN
        exact num_lt (n := 4) _ (fun y hy => HS1.out.byte y (List.mem_of_mem_drop (List.mem_of_mem_take hy))) (by rw [List.length_take, List.length_drop]; omega)
      have HCL : Hid (claimN l = if 48 < saidN l ∧ saidN l ≤ l.length then saidN l else 0) := by
        show _ = _
        unfold claimN
        by_cases z : 48 < saidN l ∧ saidN l ≤ l.length
        · rw [if_pos z, if_pos ⟨by omega, q, z⟩]
        · rw [if_neg z, if_neg (fun h => z h.2.2)]
      obtain ⟨S, hS⟩ : ∃ S, S = saidN l := ⟨_, rfl⟩
      rw [← hS] at HA HCL hsl
      rw [← HRE.out] at HCL
      obtain ⟨M, hM⟩ : ∃ M, M = (l.drop 4).take 44 := ⟨_, rfl⟩
      rw [← hM] at HA HN
      clear k1 k2 hml hS hM q HS1 HCLQ HRE
      have hwe := hw1.out
      subst hwe
      go_wp2_with fail
      (with_reducible refine HN.out.mono ?_)
      rintro e w2 ⟨ib, X, rfl, hin, hbw⟩
      have HI := Lib.hid (inN_any _ X w2 ib _ 4 hin ⟨by omega, by omega⟩)
      have HB2 := Lib.hid hbw
      have HX := Lib.hid hin.2.1
      rw [HA.out] at HI
      clear hin hbw HN HA
      go_wp2_with fail
      (with_reducible refine HI.out.mono ?_)
      rintro e w3 ⟨rfl, _, hfr⟩
      have HB3 : Hid (Below w.heap.size w w3) := HB1.out.trans ((HB2.out.trans (hfr.below HB2.out.size fun k hk hx => by have := (HX.out k hx).1; omega)).mono HB1.out.size)
      clear hfr HI HX HB2
      go_upto_region 4 with fail
      have HCL2 := HCL.out
      by_cases z : 48 < S
      · have d2 : decide ((S : Int) ≤ 48) = false := decide_eq_false (by omega)
        by_cases z2 : S ≤ l.length
        · have d3 : decide ((l.length : Int) < (S : Int)) = false := decide_eq_false (by omega)
          have HR2 : Hid (R = S) := by show _ = _; rw [HCL2, if_pos ⟨z, z2⟩]
          clear HCL HCL2
          go_wp2_with fail
          go_ret
          exact ⟨by rw [HR2.out]; rfl, HB3.out⟩
        · have d3 : decide ((l.length : Int) < (S : Int)) = true := decide_eq_true (by omega)
          have HR2 : Hid (R = 0) := by show _ = _; rw [HCL2, if_neg (fun h => z2 h.2)]
          clear HCL HCL2
          go_wp2_with fail
          go_ret
          exact ⟨by rw [HR2.out]; rfl, HB3.out⟩
      · have d2 : decide ((S : Int) ≤ 48) = true := decide_eq_true (by omega)
        have HR2 : Hid (R = 0) := by show _ = _; rw [HCL2, if_neg (fun h => z h.1)]
        clear HCL HCL2
        go_wp2_with fail
        go_ret
        exact ⟨by rw [HR2.out]; rfl, HB3.out⟩
    · rw [decide_eq_false q] at HP
      have HR := Lib.hid (HCLQ.out q)
      clear q HS1 HCLQ HRE hw1
      go_enter Tryd.func35, Tryd.ntmps35
      go_wp2_with fail
      (with_reducible refine HP.out.mono ?_)
      rintro e w' ⟨rfl, rfl⟩
      go_wp2_with fail
      go_ret
      exact ⟨by rw [HR.out]; rfl, HB1.out⟩
end Go.Proofs.YthpfjgbhacdpgaaDoor
end

section
namespace Go.Proofs.YthpfjgbhacdpgaaDoor
open Go.ChangeShapes Go.WideShapes Go.ChangeAt Go.RowKit Go.Joins
set_option linter.unusedVariables false

theorem part_get {cs l : List Value} {off n j : Nat} (h : (cs.drop off).take n = l) (hj : j < n) : cs[off + j]? = l[j]? := by
  rw [← h, List.getElem?_take, if_pos hj, List.getElem?_drop]
theorem rowArr_get (N : Nat) (F : Nat → Value) (j : Nat) : (rowArr N F).toList[j]? = if j < N then some (F j) else none := by
  simp [rowArr]
  split <;> simp_all
/-- A string is its bytes. -/
theorem str_of (s : ByteArray) : ∃ l : List Nat, s = strOf l ∧ IsByte l ∧ l.length = s.size := by
  refine ⟨s.data.toList.map fun x => x.toNat, ?_, fun n hn => ?_, by rw [List.length_map, Array.length_toList]; rfl⟩
  · unfold strOf strOfNums
    obtain ⟨⟨d⟩⟩ := s
    simp [Function.comp_def]
  · obtain ⟨x, _, rfl⟩ := List.mem_map.1 hn
    exact x.toNat_lt

section
variable {H : Type} {enc : TypeId × Value → H} {w : World} {base : Nat} {spare : Nat → Bool} {held : Bool}

theorem cells_u8 : Tryd.prog.cellsOf 5 = 1 := by kernel_rfl
/-- An array of bytes. -/
theorem arr_in {n fuel : Nat} {t : TypeId} (ht : Tryd.prog.underlying t = some (.array n 5)) (hc : Tryd.prog.cellsOf t = n) {cs : List Value} {x : DataW H × List MemPlace} (h : DataW.trod enc Tryd.prog w base spare held fuel t cs = some x) :
    ∃ l : List Nat, l.length = n ∧ IsByte l ∧ cs = (rowArr n (vOf l)).toList := by
  obtain ⟨xs, m, _, hx, hlen, hxl, hel⟩ := DataW.trod_array ht h
  have key : ∀ i, i < n → ∃ k : Nat, k < 256 ∧ cs[i]? = some (.int .u8 (k : Int)) := fun i hi => by
    have h1 := hel i hi
    rw [cells_u8, Nat.mul_one, List.getElem?_eq_getElem (by omega)] at h1
    obtain ⟨z, e, _, wz⟩ := DataW.trod_int Tryd.underlying5 h1
    have hz : 0 ≤ z ∧ z ≤ 255 := by simpa [Lit.wf, IntKind.min, IntKind.max, IntKind.signed, IntKind.bits] using wz
    have := part_get (j := 0) e (by omega)
    refine ⟨z.toNat, by omega, ?_⟩
    rw [Nat.add_zero] at this
    rw [this]
    simp
    omega
  obtain ⟨f, hf⟩ := Go.Deep.choose_lt (α := Nat) (p := fun i k => k < 256 ∧ cs[i]? = some (.int .u8 (k : Int))) (n := n) key
  refine ⟨(List.range n).map f, by simp, fun k hk => ?_, ?_⟩
  · obtain ⟨i, hi, rfl⟩ := List.mem_map.1 hk
    exact (hf i (List.mem_range.1 hi)).1
  · apply List.ext_getElem?
    intro i
    rw [rowArr_get]
    by_cases hi : i < n
    · rw [if_pos hi, (hf i hi).2]
      simp [vOf, byteV, List.getD, hi]
    · rw [if_neg hi, List.getElem?_eq_none (by rw [hlen, hc]; omega)]

theorem cells_fil : Tryd.prog.cellsOf 25 = 35 := by kernel_rfl
theorem cells_32 : Tryd.prog.cellsOf 23 = 32 := by kernel_rfl
theorem i64R_of {z : Int} (wz : (Lit.int .i64 z).wf = true) : i64R z := by
  have hz : -9223372036854775808 ≤ z ∧ z ≤ 9223372036854775807 := by simpa [Lit.wf, IntKind.min, IntKind.max, IntKind.signed, IntKind.bits] using wz
  exact hz
set_option maxRecDepth 100000 in
/-- A file's entry. -/
theorem fil_in {fuel : Nat} {cs : List Value} {x : DataW H × List MemPlace} (h : DataW.trod enc Tryd.prog w base spare held fuel 25 cs = some x) :
    ∃ f, FilOk f ∧ cs = (rowArr 35 (filV f)).toList := by
  obtain ⟨xs, n, _, hy, hlen, hxl, hf⟩ := DataW.trod_struct Tryd.underlying25 h
  have hlen2 : cs.length = 35 := hlen.trans cells_fil
  match xs, hxl with
  | [y0, y1, y2, y3], _ =>
    have f0 : DataW.trod enc Tryd.prog w base spare held n 9 ((cs.drop 0).take 1) = some y0 := hf 0 _ rfl
    have f1 : DataW.trod enc Tryd.prog w base spare held n 3 ((cs.drop 1).take 1) = some y1 := hf 1 _ rfl
    have f2 : DataW.trod enc Tryd.prog w base spare held n 23 ((cs.drop 2).take 32) = some y2 := hf 2 _ rfl
    have f3 : DataW.trod enc Tryd.prog w base spare held n 3 ((cs.drop 34).take 1) = some y3 := hf 3 _ rfl
    obtain ⟨s, e0, _, hsl⟩ := DataW.trod_string Tryd.underlying9 f0
    obtain ⟨z1, e1, _, wz1⟩ := DataW.trod_int Tryd.underlying3 f1
    obtain ⟨dg, hd1, hd2, e2⟩ := arr_in Tryd.underlying23 cells_32 f2
    obtain ⟨z3, e3, _, wz3⟩ := DataW.trod_int Tryd.underlying3 f3
    obtain ⟨l, rfl, hlb, hll⟩ := str_of s
    refine ⟨⟨l, z1, dg, z3⟩, ⟨hlb, i64R_of wz1, i64R_of wz3, hd1, hd2, by rw [hll]; unfold maxLen at hsl; omega⟩, ?_⟩
    apply List.ext_getElem?
    intro i
    rw [rowArr_get]
    by_cases hi : i < 35
    · rw [if_pos hi]
      unfold filV
      by_cases i0 : i = 0
      · subst i0
        rw [if_pos rfl]
        exact part_get (j := 0) e0 (by omega)
      · by_cases i1 : i = 1
        · subst i1
          rw [if_neg (by omega), if_pos rfl]
          exact part_get (j := 0) e1 (by omega)
        · by_cases i2 : i < 34
          · rw [if_neg i0, if_neg i1, if_pos i2]
            have := part_get (j := i - 2) e2 (by omega)
            rw [rowArr_get, if_pos (by omega), show 2 + (i - 2) = i by omega] at this
            exact this
          · have e : i = 34 := by omega
            subst e
            rw [if_neg i0, if_neg i1, if_neg i2]
            exact part_get (j := 0) e3 (by omega)
    · rw [if_neg hi, List.getElem?_eq_none (by omega)]

/-! What is known of slices. -/

theorem cells_sm : Tryd.prog.cellsOf 76 = 34 := by kernel_rfl
def smV (x : Sm) (j : Nat) : Value := if j = 0 then .int .i64 x.n else if j = 1 then .int .u32 (x.crc : Int) else vOf x.dg (j - 2)
set_option maxRecDepth 100000 in
theorem sm_in {fuel : Nat} {cs : List Value} {x : DataW H × List MemPlace} (h : DataW.trod enc Tryd.prog w base spare held fuel 76 cs = some x) :
    ∃ y, SmOk y ∧ cs = (rowArr 34 (smV y)).toList := by
  obtain ⟨xs, n, _, hy, hlen, hxl, hf⟩ := DataW.trod_struct Tryd.underlying76 h
  have hlen2 : cs.length = 34 := hlen.trans cells_sm
  match xs, hxl with
  | [y0, y1, y2], _ =>
    have f0 : DataW.trod enc Tryd.prog w base spare held n 3 ((cs.drop 0).take 1) = some y0 := hf 0 _ rfl
    have f1 : DataW.trod enc Tryd.prog w base spare held n 27 ((cs.drop 1).take 1) = some y1 := hf 1 _ rfl
    have f2 : DataW.trod enc Tryd.prog w base spare held n 23 ((cs.drop 2).take 32) = some y2 := hf 2 _ rfl
    obtain ⟨z0, e0, _, wz0⟩ := DataW.trod_int Tryd.underlying3 f0
    obtain ⟨z1, e1, _, wz1⟩ := DataW.trod_int Tryd.underlying27 f1
    obtain ⟨dg, hd1, hd2, e2⟩ := arr_in Tryd.underlying23 cells_32 f2
    have hz1 : 0 ≤ z1 ∧ z1 ≤ 4294967295 := by simpa [Lit.wf, IntKind.min, IntKind.max, IntKind.signed, IntKind.bits] using wz1
    obtain ⟨k, rfl⟩ : ∃ k : Nat, z1 = (k : Int) := ⟨z1.toNat, by omega⟩
    refine ⟨⟨z0, k, dg⟩, ⟨i64R_of wz0, by show k < 4294967296; omega, hd1, hd2⟩, ?_⟩
    apply List.ext_getElem?
    intro i
    rw [rowArr_get]
    by_cases hi : i < 34
    · rw [if_pos hi]
      unfold smV
      by_cases i0 : i = 0
      · subst i0
        rw [if_pos rfl]
        exact part_get (j := 0) e0 (by omega)
      · by_cases i1 : i = 1
        · subst i1
          rw [if_neg (by omega), if_pos rfl]
          exact part_get (j := 0) e1 (by omega)
        · rw [if_neg i0, if_neg i1]
          have := part_get (j := i - 2) e2 (by omega)
          rw [rowArr_get, if_pos (by omega), show 2 + (i - 2) = i by omega] at this
          exact this
    · rw [if_neg hi, List.getElem?_eq_none (by omega)]
set_option maxRecDepth 100000 in
theorem sms_in {fuel : Nat} {c : Value} {x : DataW H × List MemPlace} (h : DataW.trod enc Tryd.prog w base spare held fuel 26 [c] = some x) :
    ∃ a cap l, c = .slice a l.length cap ∧ Sms w a cap l := by
  rcases DataW.trod_slice Tryd.underlying26 h with ⟨hcs, hx⟩ | ⟨a, len, cap, elems, rest, n, _, hcs, hx, hb, hl, hm, hlen, hel, _, _⟩
  · simp only [List.cons.injEq, and_true] at hcs
    exact ⟨none, 0, [], hcs, ⟨fun x hx => (by cases hx), by simp, by unfold maxLen; omega, .inl rfl⟩⟩
  · simp only [List.cons.injEq, and_true] at hcs
    obtain ⟨f, hf⟩ := Go.Deep.choose_lt (α := Sm) (p := fun i v => SmOk v ∧ ∀ j, j < 34 → w.cell? ((a.add (i * 34)).add j) = some (smV v j)) (n := len) fun i hi => by
      have h1 := hel i hi
      rw [cells_sm] at h1
      have hie : i < elems.length := by omega
      rw [List.getElem?_eq_getElem hie] at h1
      obtain ⟨cs, hcs1, hcs2⟩ := Option.bind_eq_some_iff.1 h1
      obtain ⟨y, hy, rfl⟩ := sm_in hcs2
      obtain ⟨_, _, hc⟩ := World.cells?_some hcs1
      refine ⟨y, hy, fun j hj => ?_⟩
      rw [hc j (by omega)]
      have := rowArr_get 34 (smV y) j
      rw [if_pos hj] at this
      exact this
    have hll : ((List.range len).map f).length = len := by simp
    refine ⟨some a, cap, (List.range len).map f, by rw [hll]; exact hcs, ⟨fun x hx => ?_, by rw [hll]; exact hl, hm, ?_⟩⟩
    · obtain ⟨i, hi, rfl⟩ := List.mem_map.1 hx
      exact (hf i (List.mem_range.1 hi)).1
    · by_cases h0 : len = 0
      · exact .inl (List.length_eq_zero_iff.1 (by rw [hll]; exact h0))
      · obtain ⟨b, off, spot⟩ := a
        have hc0 := (hf 0 (by omega)).2 0 (by omega)
        have hc0' : w.cell? (⟨b, off, spot⟩ : Addr) = some (smV (f 0) 0) := by simpa [Addr.add] using hc0
        have hspot : spot = none := World.cell?_spot hc0'
        subst hspot
        have hadd : ∀ r j, ((⟨b, off, none⟩ : Addr).add r).add j = ⟨b, off + r + j, none⟩ := fun r j => by
          by_cases r0 : r = 0 <;> by_cases j0 : j = 0
          · subst r0; subst j0; simp [Addr.add]
          · subst r0; simp [Addr.add, j0]
          · subst j0; simp [Addr.add, r0]
          · simp [Addr.add, r0, j0]
        refine .inr ⟨b, off, rfl, World.block_lt_of_cell? w _ hc0', fun i hi => ?_⟩
        have hi2 : i < len := by rw [hll] at hi; exact hi
        have hgi : ((List.range len).map f)[i] = f i := by simp
        rw [hgi]
        obtain ⟨q, hq⟩ := hf i hi2
        have hq' : ∀ j, j < 34 → w.cell? ⟨b, off + i * 34 + j, none⟩ = some (smV (f i) j) := fun j hj => by rw [← hadd]; exact hq j hj
        refine ⟨by simpa [smV] using hq' 0 (by omega), by simpa [smV] using hq' 1 (by omega), fun j hj => ?_⟩
        have hj32 : j < 32 := by rw [q.2.2.1] at hj; exact hj
        have := hq' (2 + j) (by omega)
        unfold smV at this
        rw [if_neg (by omega), if_neg (by omega), show 2 + j - 2 = j by omega, vOf_eq _ _ hj] at this
        rw [show off + i * 34 + 2 + j = off + i * 34 + (2 + j) by omega]
        exact this

/-! A packet. -/

/-- Its 51 cells. -/
def pkV (p : Pk) (sa : Option Addr) (sc : Nat) (da : Option Addr) (dc : Nat) (j : Nat) : Value :=
  if j < 8 then vOf p.set j else if j = 8 then .int .i64 p.kind else if j = 9 then .int .i64 p.slice else if j = 10 then .int .i64 p.files else if j = 11 then .int .i64 p.slices else if j = 12 then .int .i64 p.index else
  if j < 48 then filV p.file (j - 13) else if j = 48 then .slice sa p.sums.length sc else if j = 49 then .int .u32 (p.id : Int) else .slice da p.data.length dc
theorem pkV_set (p : Pk) (sa : Option Addr) (sc : Nat) (da : Option Addr) (dc : Nat) {j : Nat} (h : j < 8) : pkV p sa sc da dc j = vOf p.set j := by
  unfold pkV
  rw [if_pos h]
theorem pkV_fil (p : Pk) (sa : Option Addr) (sc : Nat) (da : Option Addr) (dc : Nat) {j : Nat} (h : 13 ≤ j) (h2 : j < 48) : pkV p sa sc da dc j = filV p.file (j - 13) := by
  unfold pkV
  rw [if_neg (by omega), if_neg (by omega), if_neg (by omega), if_neg (by omega), if_neg (by omega), if_neg (by omega), if_pos h2]
/-- What a packet's slices lead to. -/
structure PkAt (w : World) (p : Pk) (sa : Option Addr) (sc : Nat) (da : Option Addr) (dc : Nat) : Prop where
  okk : PkIn p
  sums : Sms w sa sc p.sums
  data : Sl w da dc p.data
theorem PkAt.below {w w' : World} {p : Pk} {sa : Option Addr} {sc : Nat} {da : Option Addr} {dc : Nat} (h : PkAt w p sa sc da dc) (k : Below w.heap.size w w') : PkAt w' p sa sc da dc := ⟨h.okk, h.sums.below k, h.data.below k⟩
theorem cells_pk : Tryd.prog.cellsOf 30 = 51 := by kernel_rfl
theorem cells_8 : Tryd.prog.cellsOf 22 = 8 := by kernel_rfl
set_option maxRecDepth 100000 in
set_option maxHeartbeats 1000000 in
theorem pk_in {fuel : Nat} {cs : List Value} {x : DataW H × List MemPlace} (h : DataW.trod enc Tryd.prog w base spare held fuel 30 cs = some x) :
    ∃ p sa sc da dc, cs = (rowArr 51 (pkV p sa sc da dc)).toList ∧ PkAt w p sa sc da dc := by
  obtain ⟨xs, n, _, hy, hlen, hxl, hf⟩ := DataW.trod_struct Tryd.underlying30 h
  have hlen2 : cs.length = 51 := hlen.trans cells_pk
  match xs, hxl with
  | [y0, y1, y2, y3, y4, y5, y6, y7, y8, y9], _ =>
    have f0 : DataW.trod enc Tryd.prog w base spare held n 22 ((cs.drop 0).take 8) = some y0 := hf 0 _ rfl
    have f1 : DataW.trod enc Tryd.prog w base spare held n 3 ((cs.drop 8).take 1) = some y1 := hf 1 _ rfl
    have f2 : DataW.trod enc Tryd.prog w base spare held n 3 ((cs.drop 9).take 1) = some y2 := hf 2 _ rfl
    have f3 : DataW.trod enc Tryd.prog w base spare held n 3 ((cs.drop 10).take 1) = some y3 := hf 3 _ rfl
    have f4 : DataW.trod enc Tryd.prog w base spare held n 3 ((cs.drop 11).take 1) = some y4 := hf 4 _ rfl
    have f5 : DataW.trod enc Tryd.prog w base spare held n 3 ((cs.drop 12).take 1) = some y5 := hf 5 _ rfl
    have f6 : DataW.trod enc Tryd.prog w base spare held n 25 ((cs.drop 13).take 35) = some y6 := hf 6 _ rfl
    have f7 : DataW.trod enc Tryd.prog w base spare held n 26 ((cs.drop 48).take 1) = some y7 := hf 7 _ rfl
    have f8 : DataW.trod enc Tryd.prog w base spare held n 27 ((cs.drop 49).take 1) = some y8 := hf 8 _ rfl
    have f9 : DataW.trod enc Tryd.prog w base spare held n 28 ((cs.drop 50).take 1) = some y9 := hf 9 _ rfl
    have one : ∀ off, off < 51 → ∃ c, (cs.drop off).take 1 = [c] := fun off ho => ⟨cs[off], by
      rw [List.drop_eq_getElem_cons (by omega)]; rfl⟩
    obtain ⟨set, hs8, hsb, e0⟩ := arr_in Tryd.underlying22 cells_8 f0
    obtain ⟨z1, e1, _, wz1⟩ := DataW.trod_int Tryd.underlying3 f1
    obtain ⟨z2, e2, _, wz2⟩ := DataW.trod_int Tryd.underlying3 f2
    obtain ⟨z3, e3, _, wz3⟩ := DataW.trod_int Tryd.underlying3 f3
    obtain ⟨z4, e4, _, wz4⟩ := DataW.trod_int Tryd.underlying3 f4
    obtain ⟨z5, e5, _, wz5⟩ := DataW.trod_int Tryd.underlying3 f5
    obtain ⟨fl, hfl, e6⟩ := fil_in f6
    obtain ⟨c7, e7⟩ := one 48 (by omega)
    rw [e7] at f7
    obtain ⟨sa, sc, sl, rfl, hsm⟩ := sms_in f7
    obtain ⟨z8, e8, _, wz8⟩ := DataW.trod_int Tryd.underlying27 f8
    obtain ⟨c9, e9⟩ := one 50 (by omega)
    rw [e9] at f9
    obtain ⟨da, dc, dl, rfl, hdl⟩ := bytes_in f9
    have hz8 : 0 ≤ z8 ∧ z8 ≤ 4294967295 := by simpa [Lit.wf, IntKind.min, IntKind.max, IntKind.signed, IntKind.bits] using wz8
    obtain ⟨k, rfl⟩ : ∃ k : Nat, z8 = (k : Int) := ⟨z8.toNat, by omega⟩
    refine ⟨⟨set, z1, z2, z3, z4, z5, fl, sl, k, dl⟩, sa, sc, da, dc, ?_, ⟨⟨hs8, hsb, i64R_of wz1, i64R_of wz2, i64R_of wz3, i64R_of wz4, i64R_of wz5, hfl, hsm.rng, by show k < 4294967296; omega, hdl.byte⟩, hsm, hdl⟩⟩
    apply List.ext_getElem?
    intro i
    rw [rowArr_get]
    by_cases hi : i < 51
    · rw [if_pos hi]
      by_cases j1 : i < 8
      · rw [pkV_set _ _ _ _ _ j1]
        have := part_get (j := i) e0 (by omega)
        rw [rowArr_get, if_pos (by omega), Nat.zero_add] at this
        exact this
      · by_cases j2 : 13 ≤ i ∧ i < 48
        · rw [pkV_fil _ _ _ _ _ j2.1 j2.2]
          have := part_get (j := i - 13) e6 (by omega)
          rw [rowArr_get, if_pos (by omega), show 13 + (i - 13) = i by omega] at this
          exact this
        · have hc : i = 8 ∨ i = 9 ∨ i = 10 ∨ i = 11 ∨ i = 12 ∨ i = 48 ∨ i = 49 ∨ i = 50 := by omega
          clear j1 j2 hi
          rcases hc with rfl | rfl | rfl | rfl | rfl | rfl | rfl | rfl
          · exact part_get (j := 0) e1 (by omega)
          · exact part_get (j := 0) e2 (by omega)
          · exact part_get (j := 0) e3 (by omega)
          · exact part_get (j := 0) e4 (by omega)
          · exact part_get (j := 0) e5 (by omega)
          · exact part_get (j := 0) e7 (by omega)
          · exact part_get (j := 0) e8 (by omega)
          · exact part_get (j := 0) e9 (by omega)
    · rw [if_neg hi, List.getElem?_eq_none (by omega)]
set_option maxRecDepth 100000 in
/-- A packet that is handed in. -/
theorem pk_arg {r : Reach} {b0 : Nat} {v : Value} {d : DataW H} {q : List MemPlace} (hv : Value.okWide Tryd.prog w r b0 30 v) (h : DataW.Trod enc Tryd.prog w base spare held 30 v d q) :
    ∃ p sa sc da dc, v = .agg (rowArr 51 (pkV p sa sc da dc)) ∧ PkAt w p sa sc da dc := by
  obtain ⟨cs, rfl, hsz⟩ := okWide_struct Tryd.underlying30 hv
  obtain ⟨fuel, hf⟩ := h
  obtain ⟨p, sa, sc, da, dc, e, hp⟩ := pk_in hf
  have e2 : cs = rowArr 51 (pkV p sa sc da dc) := Array.ext' e
  exact ⟨p, sa, sc, da, dc, by rw [e2], hp⟩
end
end Go.Proofs.YthpfjgbhacdpgaaDoor
end

section
namespace Go.Proofs.YthpfjgbhacdpgaaDoor
open Go.ChangeShapes Go.WideShapes Go.ChangeAt Go.RowKit Go.Joins
set_option linter.unusedVariables false

/-! Cells loaded as one value. -/

set_option maxRecDepth 100000 in
theorem run_loadVar_cells {P : Program} (w : World) (g off n : Nat) (F : Nat → Value) (ty : TypeId) (d : TypeDesc) (hg : ∀ j, j < n → w.cell? ⟨g, off + j, none⟩ = some (F j))
    (hu : P.underlying ty = some d) (hd : isAggD d = true) (hi : (P.info? ty).map (·.size) = some n) :
    (loadVar ty ⟨g, off, none⟩).run P w = .ok (.agg (rowArr n F)) w := by
  have hlen : (rowArr n F).toList.length = n := by simp [rowArr]
  have hl : (loadCells ⟨g, off, none⟩ (rowArr n F).toList.length).run P w = .ok (rowArr n F).toList.toArray w :=
    run_loadCells_list (P := P) w ⟨g, off, none⟩ (rowArr n F).toList (fun j v hv => by
      have hadd : (⟨g, off, none⟩ : Addr).add j = ⟨g, off + j, none⟩ := by unfold Addr.add; split <;> simp_all
      have hj : j < n := by
        have := (List.getElem?_eq_some_iff.1 hv).1
        omega
      rw [rowArr_get, if_pos hj] at hv
      rw [hadd, hg j hj]
      exact hv)
  rw [hlen] at hl
  cases hq : P.info? ty with
  | none => simp [hq] at hi
  | some i =>
    have hs : i.size = n := by simpa [hq] using hi
    have hagg : (isAgg ty).run P w = .ok true w := by
      unfold isAgg
      rw [Sem.run_bind, run_underlying hu w]
      cases d <;> simp_all [isAggD]
    simp only [Array.toArray_toList] at hl
    simp [loadVar, Sem.run_bind, hagg, sizeOf, typeInfo, hq, hs, hl]
set_option maxRecDepth 100000 in
/-- Loaded where a guard lets it. -/
theorem wpList_load_v {ops : Array Oper} {rest : List Oper} {o : Oper} {a : Act} {w : World} {Q : Exit → Act → World → Prop} (hw : Region.wanted o (yielded ops a.tmps) = true) (ty : TypeId) (x : Operand) (ho : o.op = .load ty x)
    (g off n : Nat) (F : Nat → Value) (V : Array Value) (hV : rowArr n F = V) (hx : a.eval x = .pointer (some ⟨g, off, none⟩)) (d : TypeDesc) (hg : ∀ j, j < n → w.cell? ⟨g, off + j, none⟩ = some (F j))
    (hu : Tryd.prog.underlying ty = some d) (hd : isAggD d = true) (hi : (Tryd.prog.info? ty).map (·.size) = some n)
    (h : wpList Tryd.prog ops Q rest (a.put o.dst (.agg V)) w) : wpList Tryd.prog ops Q (o :: rest) a w :=
  wpList_step fun K hK => by
    rw [if_pos hw]
    subst hV
    unfold Oper.wp execOp
    simp only [ho, hx, Instr.loadAt, Instr.sureAddr, Sem.run_bind, Sem.run_pure, Result.andThen_ok, run_loadVar_cells (P := Tryd.prog) w g off n F ty d hg hu hd hi]
    exact hK _ _ h
set_option maxRecDepth 100000 in
theorem wpQuiet_load_v {ops : Array Oper} {rest : List Oper} {C : World → Prop} {o : Oper} {a : Act} {Q : Act → Prop} (hw : Region.wanted o (yielded ops a.tmps) = true) (ty : TypeId) (x : Operand) (ho : o.op = .load ty x)
    (g off n : Nat) (F : Nat → Value) (V : Array Value) (hV : rowArr n F = V) (hx : a.eval x = .pointer (some ⟨g, off, none⟩)) (d : TypeDesc) (hg : ∀ w, C w → ∀ j, j < n → w.cell? ⟨g, off + j, none⟩ = some (F j))
    (hu : Tryd.prog.underlying ty = some d) (hd : isAggD d = true) (hi : (Tryd.prog.info? ty).map (·.size) = some n)
    (h : wpQuiet Tryd.prog ops C Q rest (a.put o.dst (.agg V))) : wpQuiet Tryd.prog ops C Q (o :: rest) a :=
  wpQuiet_step fun K hK => by
    subst hV
    rw [if_pos hw]
    refine ⟨_, fun w hc => ?_, hK _ h⟩
    unfold Oper.quietAt execOp
    simp only [ho, hx, Instr.loadAt, Instr.sureAddr, Sem.run_bind, Sem.run_pure, Result.andThen_ok, run_loadVar_cells (P := Tryd.prog) w g off n F ty d (hg w hc) hu hd hi]
    exact ⟨rfl, rfl⟩

/-! A packet in a block. -/

/-- The block b is this packet's cells. -/
def PkBlk (w : World) (b : Nat) (p : Pk) (sa : Option Addr) (sc : Nat) (da : Option Addr) (dc : Nat) : Prop := w.heap[b]? = some (.cells (rowArr 51 (pkV p sa sc da dc)) 30 (0, 0))
theorem PkBlk.at {w : World} {b : Nat} {p : Pk} {sa : Option Addr} {sc : Nat} {da : Option Addr} {dc : Nat} (h : PkBlk w b p sa sc da dc) {j : Nat} (hj : j < 51) : w.cell? ⟨b, j, none⟩ = some (pkV p sa sc da dc j) := by
  rw [cell_of_block h]
  simp [rowArr, hj]
theorem PkBlk.lt {w : World} {b : Nat} {p : Pk} {sa : Option Addr} {sc : Nat} {da : Option Addr} {dc : Nat} (h : PkBlk w b p sa sc da dc) : b < w.heap.size := (Array.getElem?_eq_some_iff.1 h).1
theorem PkBlk.below {w w' : World} {b : Nat} {p : Pk} {sa : Option Addr} {sc : Nat} {da : Option Addr} {dc : Nat} (h : PkBlk w b p sa sc da dc) (k : Below w.heap.size w w') : PkBlk w' b p sa sc da dc := (k.block b h.lt).trans h
theorem PkBlk.new (w : World) (p : Pk) (sa : Option Addr) (sc : Nat) (da : Option Addr) (dc : Nat) : PkBlk (w.alloc (.cells (rowArr 51 (pkV p sa sc da dc)) 30)) w.heap.size p sa sc da dc := heap_alloc_last w _
theorem pk_file (p : Pk) (sa : Option Addr) (sc : Nat) (da : Option Addr) (dc : Nat) : (rowArr 35 fun j => pkV p sa sc da dc (13 + j)) = rowArr 35 (filV p.file) := by
  apply Array.ext'
  apply List.ext_getElem?
  intro i
  rw [rowArr_get, rowArr_get]
  by_cases hi : i < 35
  · rw [if_pos hi, if_pos hi, pkV_fil _ _ _ _ _ (by omega) (by omega), show 13 + i - 13 = i by omega]
  · rw [if_neg hi, if_neg hi]
theorem pk_set (p : Pk) (sa : Option Addr) (sc : Nat) (da : Option Addr) (dc : Nat) : (rowArr 8 fun j => pkV p sa sc da dc (0 + j)) = rowArr 8 (vOf p.set) := by
  apply Array.ext'
  apply List.ext_getElem?
  intro i
  rw [rowArr_get, rowArr_get]
  by_cases hi : i < 8
  · rw [if_pos hi, if_pos hi, pkV_set _ _ _ _ _ (by omega), Nat.zero_add]
  · rw [if_neg hi, if_neg hi]

/-! few. -/

def fewPk (p : Pk) : Bool := decide (p.file.name.length ≤ 400) && (decide (p.sums.length ≤ 100) && decide (p.data.length ≤ 400))
set_option maxRecDepth 100000 in
set_option maxHeartbeats 1000000 in
theorem few14_any (p : Pk) (sa : Option Addr) (sc : Nat) (da : Option Addr) (dc : Nat) (w : World) (h : PkAt w p sa sc da dc) :
    Calls Tryd.prog 9 #[.agg (rowArr 51 (pkV p sa sc da dc))] w fun e w' => e = .returned (.bool (fewPk p)) ∧ Below w.heap.size w w' := by
  have hl1 := h.sums.lt
  have hl2 := h.data.lt
  have HB : Hid (Below w.heap.size w (w.alloc (.cells (rowArr 51 (pkV p sa sc da dc)) 30))) := (Below.refl _ _).alloc (Nat.le_refl _) _
  have HP : Hid (PkBlk (w.alloc (.cells (rowArr 51 (pkV p sa sc da dc)) 30)) w.heap.size p sa sc da dc) := PkBlk.new w p sa sc da dc
  have hsz := strOf_size p.file.name
  obtain ⟨n1, hn1⟩ : ∃ n, n = p.file.name.length := ⟨_, rfl⟩
  have HFW : Hid (fewPk p = (decide (n1 ≤ 400) && (decide (p.sums.length ≤ 100) && decide (p.data.length ≤ 400)))) := by unfold fewPk; rw [← hn1]; rfl
  rw [← hn1] at hsz
  have hn63 : n1 ≤ 9223372036854775807 := by rw [hn1]; exact h.okk.file.short
  obtain ⟨arr, harr⟩ : ∃ arr, arr = rowArr 51 (pkV p sa sc da dc) := ⟨_, rfl⟩
  rw [← harr] at HB HP ⊢
  clear harr h hn1
  go_enter Tryd.func9, Tryd.ntmps9
  go_upto_region 1 with fail
  obtain ⟨w1, hw1⟩ : ∃ w1, w1 = w.alloc (.cells arr 30) := ⟨_, rfl⟩
  obtain ⟨B, hB⟩ : ∃ B, B = w.heap.size := ⟨_, rfl⟩
  rw [← hw1, ← hB] at HP
  rw [← hw1] at HB
  rw [← hw1, ← hB]
  have c13 : w1.cell? ⟨B, 13, none⟩ = some (.string (strOf p.file.name)) := HP.out.at (by omega)
  have c48 : w1.cell? ⟨B, 48, none⟩ = some (.slice sa p.sums.length sc) := HP.out.at (by omega)
  have c50 : w1.cell? ⟨B, 50, none⟩ = some (.slice da p.data.length dc) := HP.out.at (by omega)
  clear hw1 hB HP
  by_cases q1 : n1 ≤ 400
  · have d1 : decide ((n1 : Int) ≤ 400) = true := decide_eq_true (by omega)
    by_cases q2 : p.sums.length ≤ 100
    · have d2 : decide ((p.sums.length : Int) ≤ 100) = true := decide_eq_true (by omega)
      by_cases q3 : p.data.length ≤ 400
      · have d3 : decide ((p.data.length : Int) ≤ 400) = true := decide_eq_true (by omega)
        have HR : Hid (fewPk p = true) := by show _ = _; rw [HFW.out, decide_eq_true q1, decide_eq_true q2, decide_eq_true q3]; rfl
        clear HFW
        go_wp2_with fail
        go_ret
        exact ⟨ret_bool HR.out.symm, HB.out⟩
      · have d3 : decide ((p.data.length : Int) ≤ 400) = false := decide_eq_false (by omega)
        have HR : Hid (fewPk p = false) := by show _ = _; rw [HFW.out, decide_eq_false q3]; simp
        clear HFW
        go_wp2_with fail
        go_ret
        exact ⟨ret_bool HR.out.symm, HB.out⟩
    · have d2 : decide ((p.sums.length : Int) ≤ 100) = false := decide_eq_false (by omega)
      have HR : Hid (fewPk p = false) := by show _ = _; rw [HFW.out, decide_eq_false q2]; simp
      clear HFW
      go_wp2_with fail
      go_ret
      exact ⟨ret_bool HR.out.symm, HB.out⟩
  · have d1 : decide ((n1 : Int) ≤ 400) = false := decide_eq_false (by omega)
    have HR : Hid (fewPk p = false) := by show _ = _; rw [HFW.out, decide_eq_false q1]; rfl
    clear HFW
    go_wp2_with fail
    go_ret
    exact ⟨ret_bool HR.out.symm, HB.out⟩
end Go.Proofs.YthpfjgbhacdpgaaDoor
end

section
namespace Go.Proofs.YthpfjgbhacdpgaaDoor
open Go.ChangeShapes Go.WideShapes Go.ChangeAt Go.RowKit Go.Joins
set_option linter.unusedVariables false

theorem info8s : (Tryd.prog.info? 5).map (·.size) = some 1 := by kernel_rfl
/-- Bytes copied into a row. -/
theorem copy_any (w : World) (ty : TypeId) (g o N k k' n dc : Nat) (F F' : Nat → Value) (t : TypeId) (a : Option Addr) (c : Nat) (x : List Nat) (hg : Row w g t N k F) (hs : Sl w a c x) (hx : x.length ≤ n) (ho : o + n ≤ N) (hk : k' ≤ N)
    (hf : ∀ j, j < k' → (o ≤ j ∧ j < o + x.length ∧ F' j = vOf x (j - o)) ∨ ((j < o ∨ o + x.length ≤ j) ∧ j < k ∧ F' j = F j)) :
    ∃ w', (Builtin.copy_ #[28, 28] ty #[.slice (some ⟨g, o, none⟩) n dc, .slice a x.length c]).run Tryd.prog w = .ok (goInt x.length) w' ∧ Row w' g t N k' F' ∧ Fr (fun j => j = g) w w' := by
  by_cases h0 : x = []
  · subst h0
    refine ⟨w, run_copy_none w 28 28 ty 5 _ _ _ _ _ _ Tryd.underlying28 info8s (by simp), ?_, Fr.refl _ _⟩
    obtain ⟨cs, h1, h2, h3⟩ := hg
    refine ⟨cs, h1, h2, fun j hj => ?_⟩
    rcases hf j hj with ⟨h4, h5, _⟩ | ⟨_, h4, h5⟩
    · simp at h5
      omega
    · rw [h3 j h4, h5]
  · obtain ⟨b, off, rfl, hb⟩ := hs.some (k := 0) (List.length_pos_iff.2 h0)
    obtain ⟨cs, h1, h2, h3⟩ := hg
    have hr := run_copy_row (P := Tryd.prog) w 28 28 ty 5 g o n dc ⟨b, off, none⟩ x.length c cs t (x.map byteV) Tryd.underlying28 info8s h1 (by rw [List.length_map]; exact (Nat.min_eq_left hx).symm) (fun j v hj => by
      rw [List.getElem?_map] at hj
      obtain ⟨y, hy, rfl⟩ := Option.map_eq_some_iff.1 hj
      obtain ⟨hjl, rfl⟩ := List.getElem?_eq_some_iff.1 hy
      have := hb j hjl
      by_cases j0 : j = 0
      · subst j0; simpa [Addr.add, byteV] using this
      · simpa [Addr.add, j0, byteV] using this) (by rw [List.length_map, h2]; omega) (fun v hv => by obtain ⟨y, _, rfl⟩ := List.mem_map.1 hv; rfl)
    rw [List.length_map] at hr
    refine ⟨_, hr, ⟨_, setRow_heap _ _ _ _ _ _ h1, ?_, fun j hj => ?_⟩, Fr.setRow (X := fun j => j = g) (Fr.refl _ w) (fun _ => rfl) _⟩
    · have : cs.toList.length = N := by rw [Array.length_toList]; exact h2
      simp only [List.size_toArray, List.length_append, List.length_take, List.length_map, List.length_drop, this]
      omega
    · have hcl : cs.toList.length = N := by rw [Array.length_toList]; exact h2
      have htl : (cs.toList.take o).length = o := by rw [List.length_take, hcl]; omega
      rw [List.getElem?_toArray]
      rcases hf j hj with ⟨h4, h5, h6⟩ | ⟨h4, h5, h6⟩
      · rw [List.getElem?_append_left (by rw [List.length_append, htl, List.length_map]; omega), List.getElem?_append_right (by rw [htl]; exact h4), htl, List.getElem?_map, List.getElem?_eq_getElem (by omega), h6, vOf_eq x (j - o) (by omega)]
        rfl
      · rw [h6, ← h3 j h5]
        rcases h4 with h4 | h4
        · rw [List.getElem?_append_left (by rw [List.length_append, htl]; omega), List.getElem?_append_left (by rw [htl]; exact h4), List.getElem?_take, if_pos h4]
          simp
        · rw [List.getElem?_append_right (by rw [List.length_append, htl, List.length_map]; exact h4), List.length_append, htl, List.length_map, List.getElem?_drop, show o + x.length + (j - (o + x.length)) = j by omega]
          simp
/-- The same as a step where the order is open. -/
theorem wp_copyB {o : Oper} {a : Act} {K : Act → World → Prop} {Q : Exit → Act → World → Prop} (w : World) (d s : Operand)
    (hop : o.op = .call { callee := .builtin .copy, args := #[d, s], argTypes := #[28, 28] })
    (g off N k k' n dc : Nat) (F F' : Nat → Value) (t : TypeId) (hd : a.eval d = .slice (some ⟨g, off, none⟩) n dc) (sa : Option Addr) (sc q : Nat) (x : List Nat) (hsv : a.eval s = .slice sa q sc) (hq : x.length = q)
    (hg : Row w g t N k F) (hs : Sl w sa sc x) (hx : x.length ≤ n) (ho : off + n ≤ N) (hk : k' ≤ N)
    (hf : ∀ j, j < k' → (off ≤ j ∧ j < off + x.length ∧ F' j = vOf x (j - off)) ∨ ((j < off ∨ off + x.length ≤ j) ∧ j < k ∧ F' j = F j))
    (h : ∀ w', Hid (Row w' g t N k' F') → Hid (Fr (fun j => j = g) w w') → K (a.put o.dst (goInt q)) w') : o.wp Tryd.prog a w K Q := by
  subst hq
  obtain ⟨w', hr, h2, h3⟩ := copy_any w o.type g off N k k' n dc F F' t sa sc x hg hs hx ho hk hf
  unfold Oper.wp execOp
  simp only [hop, resolve, invoke, builtin, Sem.run_bind, Sem.run_pure, Result.andThen_ok, List.map_toArray, List.map_cons, List.map_nil, hd, hsv, hr]
  exact h w' h2 h3

/-! Slices, made. -/

theorem infoSm : (Tryd.prog.info? 76).map (fun i => (i.zero.isSome, i.size, i.bytes)) = some (true, 34, 48) := by kernel_rfl
theorem make_sms (n : Nat) (hn : n ≤ 1000000) (w : World) : ∃ cs : Array Value, cs.size = 34 * n ∧ (Instr.makeSlice 26 (.int .i64 (n : Int)) (.int .i64 (n : Int))).run Tryd.prog w = .ok (.slice (some ⟨w.heap.size, 0, none⟩) n n) (w.alloc (.cells cs 76)) := by
  obtain ⟨i, hi, hzz⟩ := Option.map_eq_some_iff.1 infoSm
  simp only [Prod.mk.injEq] at hzz
  obtain ⟨hz, hs, hb⟩ := hzz
  obtain ⟨z, hz⟩ := Option.isSome_iff_exists.1 hz
  have hr := run_make (P := Tryd.prog) w 26 76 i z Tryd.underlying26 hi hz .i64 .i64 (n : Int) (n : Int) (by omega) (Int.le_refl _) (by rw [hb]; omega) (by omega)
  refine ⟨_, ?_, by simpa using hr⟩
  rw [hs]
  simp [size_madeCells]
  omega

/-- What the cells of slices hold. -/
def smF (m : List Nat) (j : Nat) : Value := smV (rdSm (m.drop (38 * (j / 34)))) (j % 34)
theorem smF_0 (m : List Nat) (k : Nat) : smF m (34 * k) = .int .i64 ((rdSm (m.drop (38 * k))).n) := by
  unfold smF
  rw [show 34 * k / 34 = k by omega, show 34 * k % 34 = 0 by omega]
  rfl
theorem smF_1 (m : List Nat) (k : Nat) : smF m (34 * k + 1) = .int .u32 (((rdSm (m.drop (38 * k))).crc : Nat) : Int) := by
  unfold smF
  rw [show (34 * k + 1) / 34 = k by omega, show (34 * k + 1) % 34 = 1 by omega]
  rfl
theorem smF_2 (m : List Nat) (k j : Nat) (h : j < 32) : smF m (34 * k + 2 + j) = vOf (rdSm (m.drop (38 * k))).dg j := by
  unfold smF
  rw [show (34 * k + 2 + j) / 34 = k by omega, show (34 * k + 2 + j) % 34 = 2 + j by omega]
  unfold smV
  rw [if_neg (by omega), if_neg (by omega), show 2 + j - 2 = j by omega]
/-- Cells that hold sums are sums. -/
theorem sms_of_row {w : World} {S c : Nat} {m : List Nat} (h : Row w S 76 (34 * c) (34 * c) (smF m)) (hm : 38 * c ≤ m.length) (hb : ∀ y ∈ m, y < 256) (hc : c ≤ 1000000) : Sms w (some ⟨S, 0, none⟩) c (rdSums c m) := by
  refine ⟨fun x hx => (((rdSums_flat c m hm hb).2 x hx).1), by rw [rdSums_len]; exact Nat.le_refl _, by unfold maxLen; omega, .inr ⟨S, 0, rfl, h.lt, fun i hi => ?_⟩⟩
  rw [rdSums_len] at hi
  rw [rdSums_get m hi, Nat.zero_add, Nat.mul_comm]
  refine ⟨?_, ?_, fun j hj => ?_⟩
  · rw [h.cell (34 * i) (by omega), smF_0]
  · rw [h.cell (34 * i + 1) (by omega), smF_1]
  · have hj32 : j < 32 := by
      have : ((rdSm (m.drop (38 * i))).dg).length ≤ 32 := by unfold rdSm; simp only [List.length_take]; omega
      omega
    rw [h.cell (34 * i + 2 + j) (by omega), smF_2 m i j hj32, vOf_eq _ _ hj]
end Go.Proofs.YthpfjgbhacdpgaaDoor
end
