/-
  slices.Repeat of one true.
-/
import Derived.Test.YticppgopblgkbaaPeelA
import Derived.Test.YticppgopblgkbaaFr
import Derived.Laws.CopyOwn
import Derived.Laws.Bits64b
import Derived.Test.YticppgopblgkbaaGrowW
namespace Go.Proofs.Yticppgopblgkbaa
open Go.ChangeShapes Go.WideShapes Go.ChangeAt Go.RowKit Go.Joins
set_option linter.unusedVariables false

set_option maxRecDepth 100000 in
theorem mul64_one (n : Nat) (hn : n ≤ 1000000) (w : World) : Calls Try.prog 23 #[.int .u64 1, .int .u64 (n : Int)] w fun e w' => e = .returned (.tuple #[.int .u64 0, .int .u64 (n : Int)]) ∧ w = w' := by
  have m0 : bits .and .u64 0 4294967295 = 0 := by kernel_rfl
  have m1 : bits .and .u64 1 4294967295 = 1 := by kernel_rfl
  have m2 : bits .and .u64 (n : Int) 4294967295 = (n : Int) := by
    have h := bits_and_u64_nat n 4294967295 (by omega) (by omega)
    have e : n &&& 4294967295 = n % 4294967296 := Nat.and_two_pow_sub_one_eq_mod n 32
    rw [e, Nat.mod_eq_of_lt (by omega)] at h
    exact h
  have d1 : (n : Int) / 4294967296 = 0 := by omega
  have w0 : IntKind.u64.wrap 0 = 0 := by kernel_rfl
  have w1 : IntKind.u64.wrap (n : Int) = (n : Int) := by rw [IntKind.wrap_u64]; omega
  go_enter Try.func23, Try.ntmps23
  go_wp2_with fail
  go_ret2
  exact ⟨rfl, rfl⟩

set_option maxRecDepth 100000 in
theorem mul_one_any (n : Nat) (hn : n ≤ 1000000) (w : World) : Calls Try.prog 17 #[.int .u64 1, .int .u64 (n : Int)] w fun e w' => e = .returned (.tuple #[.int .u64 0, .int .u64 (n : Int)]) ∧ w = w' := by
  have H := Lib.hid (mul64_one n hn w)
  go_enter Try.func17, Try.ntmps17
  go_wp2_with fail
  (with_reducible refine H.out.mono ?_)
  rintro e w' ⟨rfl, rfl⟩
  go_wp2_with fail
  go_ret2
  exact ⟨rfl, rfl⟩

/-- n cells, the first k of them true. -/
def TF (n k : Nat) : List Value := (List.range n).map fun j => .bool (decide (j < k))
theorem TF_len (n k : Nat) : (TF n k).length = n := by simp [TF]
theorem TF_start (n : Nat) : rowArr n (bV fun _ => false) = (TF n 0).toArray := by simp [rowArr, TF, bV]
theorem TF_all (n : Nat) : (TF n n).toArray = rowArr n (bV fun _ => true) := by
  unfold TF rowArr bV
  congr 1
  apply List.map_congr_left
  intro j hj
  simp [List.mem_range.1 hj]
theorem TF_false {n k i : Nat} (h : i < (TF n k).length) (hk : k ≤ i) : (TF n k)[i] = .bool false := by
  simp [TF]; omega
theorem TF_next {n k c : Nat} (h : k + c ≤ n) : splice (TF n k) k (List.replicate c (.bool true)) = TF n (k + c) := by
  unfold splice
  apply List.ext_getElem
  · simp [TF_len]; omega
  · intro j h1 h2
    rw [TF_len] at h2
    by_cases hk : j < k
    · rw [List.getElem_append_left (by rw [List.length_take, TF_len]; omega), List.getElem_take]
      simp [TF, hk, show j < k + c by omega]
    · rw [List.getElem_append_right (by rw [List.length_take, TF_len]; omega)]
      by_cases hc : j < k + c
      · rw [List.getElem_append_left (by rw [List.length_take, TF_len, List.length_replicate]; omega)]
        simp [TF, hc]
      · rw [List.getElem_append_right (by rw [List.length_take, TF_len, List.length_replicate]; omega)]
        rw [List.getElem_drop, TF_false, TF_false]
        · omega
        · rw [List.length_replicate]; omega
theorem TF_cell {w : World} {g n k : Nat} (h : w.heap[g]? = some (.cells (TF n k).toArray 4 (0, 0))) {j c : Nat} (hc : c ≤ k) (hn : c ≤ n) {v : Value} (hj : (List.replicate c (Value.bool true))[j]? = some v) : w.cell? ((⟨g, 0, none⟩ : Addr).add j) = some v := by
  obtain ⟨hlt, e⟩ := List.getElem?_eq_some_iff.1 hj
  rw [List.getElem_replicate] at e
  rw [List.length_replicate] at hlt
  have hadd : (⟨g, 0, none⟩ : Addr).add j = ⟨g, j, none⟩ := by
    by_cases j0 : j = 0
    · subst j0; simp [Addr.add]
    · simp [Addr.add, j0]
  rw [hadd, cell_of_block h, ← e]
  simp [TF, show j < n by omega, show j < k by omega]

set_option maxRecDepth 1000000 in
set_option maxHeartbeats 4000000 in
theorem repeat_any (g0 n : Nat) (hn : n ≤ 1000) (w : World) (h0 : w.cell? ⟨g0, 0, none⟩ = some (.bool true)) :
    Calls Try.prog 12 #[.slice (some ⟨g0, 0, none⟩) 1 1, .int .i64 (n : Int)] w fun e w' => e = .returned (.slice (some ⟨w.heap.size, 0, none⟩) n n) ∧ Row w' w.heap.size 4 n n (bV fun _ => true) ∧ Below w.heap.size w w' := by
  have HM := Lib.hid (mul_one_any n (by omega))
  have hmk := make_bools n (by omega) w
  have hg0 : g0 < w.heap.size := World.block_lt_of_cell? w _ h0
  have HB0 := Lib.hid ((Below.refl w.heap.size w).alloc (Nat.le_refl _) (.cells (rowArr n (bV fun _ => false)) 4))
  have HG0 : Hid ((w.alloc (.cells (rowArr n (bV fun _ => false)) 4)).heap[w.heap.size]? = some (.cells (TF n 0).toArray 4 (0, 0))) := by
    show _ = _
    rw [← TF_start]; exact heap_alloc_new w _
  have H1 : Hid ((w.alloc (.cells (rowArr n (bV fun _ => false)) 4)).cell? ⟨g0, 0, none⟩ = some (.bool true)) := (HB0.out.cell (p := ⟨g0, 0, none⟩) hg0).trans h0
  obtain ⟨c1, hc1⟩ : ∃ c1, c1 = min 1 n := ⟨_, rfl⟩
  have HS : Hid (∀ j v, (List.replicate (c1) (Value.bool true))[j]? = some v → (w.alloc (.cells (rowArr n (bV fun _ => false)) 4)).cell? ((⟨g0, 0, none⟩ : Addr).add j) = some v) := fun j v hj => by
    obtain ⟨hlt, e⟩ := List.getElem?_eq_some_iff.1 hj
    rw [List.getElem_replicate] at e
    rw [List.length_replicate] at hlt
    obtain rfl : j = 0 := by omega
    rw [← e]
    simpa [Addr.add] using H1.out
  have HN : Hid (splice (TF n 0) 0 (List.replicate (c1) (.bool true)) = TF n c1) := by
    have := TF_next (n := n) (k := 0) (c := c1) (by omega)
    rwa [Nat.zero_add] at this
  have HCL : Hid ((List.replicate (c1) (Value.bool true)).length = Nat.min 1 n) := by show _ = min 1 n; rw [List.length_replicate, hc1]
  have HPOS : Hid (0 < (List.replicate (c1) (Value.bool true)).length → (some (⟨w.heap.size, 0, none⟩ : Addr)) = some ⟨w.heap.size, 0, none⟩ ∧ ∃ ad, (some (⟨g0, 0, none⟩ : Addr)) = some ad ∧ ∀ j v, (List.replicate (c1) (Value.bool true))[j]? = some v → (w.alloc (.cells (rowArr n (bV fun _ => false)) 4)).cell? (ad.add j) = some v) := fun _ => ⟨rfl, _, rfl, HS.out⟩
  have HFIT : Hid (0 + (List.replicate (c1) (Value.bool true)).length ≤ (TF n 0).length) := by show _ ≤ _; rw [TF_len, List.length_replicate]; omega
  have H1C : Hid (∀ v ∈ List.replicate (c1) (Value.bool true), v.oneCell' = true) := fun v hv => by rw [(List.mem_replicate.1 hv).2]; rfl
  have hlen1 : (List.replicate (c1) (Value.bool true)).length = c1 := by simp
  have dn : ¬ (n : Int) < 0 := by omega
  generalize List.replicate (c1) (Value.bool true) = cs at *
  generalize w.alloc (.cells (rowArr n (bV fun _ => false)) 4) = w1 at *
  have hc2 : c1 ≤ n := by omega
  have hc3 : c1 = 0 → n = 0 := by omega
  clear hc1
  go_enter Try.func12, Try.ntmps12
  go_wp2_with fail
  (with_reducible refine (HM.out w).mono ?_)
  rintro e w' ⟨rfl, rfl⟩
  go_wp2_with ((with_reducible refine wpList_copy_splice rfl (.tmp 31) (.tmp 32) 41 41 rfl 4 Try.underlying41 (by kernel_rfl) (some ⟨w.heap.size, 0, none⟩) (some ⟨g0, 0, none⟩) n n 1 1 rfl rfl w.heap.size 0 (TF n 0) 4 HG0.out cs HCL.out (fun h => ⟨rfl, (HPOS.out h).2⟩) HFIT.out H1C.out w.heap.size w HB0.out (Nat.le_refl _) ?_); intro w2 HW2 b2; rw [HN.out] at HW2; have HB2 := Lib.hid b2; clear b2)
  clear HG0 HCL HPOS HFIT H1C HB0 hmk H1 HS HN hlen1 h0 hg0
  go_loopw [8] (fun v wr => ∃ k : Nat, k ≤ n ∧ (k = 0 → n = 0) ∧ v = .int .i64 k ∧ Hid (wr.heap[w.heap.size]? = some (.cells (TF n k).toArray 4 (0, 0))) ∧ Hid (Below w.heap.size w wr)) (fun v _ => n - (intOf v).toNat)
  case atStart => exact ⟨c1, hc2, hc3, rfl, HW2, HB2⟩
  case round =>
    obtain ⟨k, hk, hk0, rfl, HW, HB⟩ := hrel
    clear HW2 HB2
    by_cases hlt : k < n
    · obtain ⟨c, hc⟩ : ∃ c, c = min k (n - k) := ⟨_, rfl⟩
      have HCL : Hid ((List.replicate c (Value.bool true)).length = Nat.min k (n - k)) := by show _ = min k (n - k); rw [List.length_replicate, hc]
      have HWd : Hid (wr.drew.heap[w.heap.size]? = some (.cells (TF n k).toArray 4 (0, 0))) := HW.out
      have HBd := Lib.hid HB.out.drew
      have HSRC : Hid (∀ j v, (List.replicate c (Value.bool true))[j]? = some v → wr.drew.cell? ((⟨w.heap.size, 0, none⟩ : Addr).add j) = some v) := fun j v hj => TF_cell HWd.out (by omega) (by omega) hj
      have HFIT : Hid (k + (List.replicate c (Value.bool true)).length ≤ (TF n k).length) := by show _ ≤ _; rw [TF_len, List.length_replicate]; omega
      have H1C : Hid (∀ v ∈ List.replicate c (Value.bool true), v.oneCell' = true) := fun v hv => by rw [(List.mem_replicate.1 hv).2]; rfl
      have hlen1 : (List.replicate c (Value.bool true)).length = c := by simp
      have HN : Hid (splice (TF n k) k (List.replicate c (.bool true)) = TF n (k + c)) := TF_next (by omega)
      have hcn : k + c ≤ n := by omega
      have hc0 : 0 < c := by omega
      clear hc
      generalize List.replicate c (Value.bool true) = cs at *
      go_wp2_with fail
      have j1 : (0 : Int) ≤ (k : Int) := by omega
      have j2 : (k : Int) ≤ (n : Int) := by omega
      have j3 : ¬ n = k := by omega
      have j4 : IntKind.i64.wrap ((k : Int) + (c : Int)) = (k : Int) + (c : Int) := IntWalk.i64_in _ (by omega)
      refine growW_begin (C := fun w' => ∃ p : LowW w, w' = p.v) (by kernel_rfl) (low_class HBd.out) ?_
      refine growW_take (by kernel_rfl) [0, 1, 2, 3, 4, 5, 6] 3 _ _ (by kernel_rfl) _ (low_class HBd.out) ?_
      simp only [opsAt, List.getElem?_toArray, List.getElem?_cons_succ, List.getElem?_cons_zero]
      generalize wr.drew = wd at *
      repeat (first | go_big_quiet_step (fail) | quiet_step (fail))
      refine wpQuiet_nil ?_
      refine growW_one 7 (by kernel_rfl) (fun K hK => ?_)
      simp only [stepOf, List.getElem?_toArray, List.getElem?_cons_succ, List.getElem?_cons_zero]
      refine step_copy_splice (a := ⟨_, []⟩) rfl (.tmp 41) (.tmp 44) 41 41 rfl 4 Try.underlying41 (by kernel_rfl) (some ⟨w.heap.size, k, none⟩) (some ⟨w.heap.size, 0, none⟩) (n - k) (n - k) k n rfl rfl w.heap.size k (TF n k) 4 HWd.out cs HCL.out (fun _ => ⟨rfl, _, rfl, HSRC.out⟩) HFIT.out H1C.out w.heap.size w HBd.out (Nat.le_refl _) ?_
      intro w3 HW3 b3
      rw [HN.out] at HW3
      rw [hlen1]
      have HB3 := Lib.hid b3
      refine hK.out _ _ (low_class b3) ?_
      refine growW_take (by kernel_rfl) [8, 9] 0 _ _ (by kernel_rfl) _ (low_class b3) ?_
      clear b3
      simp only [opsAt, List.getElem?_toArray, List.getElem?_cons_succ, List.getElem?_cons_zero]
      repeat (first | go_big_quiet_step (fail) | quiet_step (fail))
      refine wpQuiet_nil ?_
      refine growW_done (by kernel_rfl) ?_
      go_wp2_with fail
      go_roundw
      case rel => exact ⟨k + c, hcn, by omega, by go_num, HW3, HB3⟩
      case measure => simp [intOf]; omega
    · obtain rfl : k = n := by omega
      have HR : Hid (Row wr w.heap.size 4 k k (bV fun _ => true)) := by
        have := HW.out
        rw [TF_all] at this
        exact Row.of_whole this
      go_wp2_with fail
      go_ret
      exact ⟨rfl, HR.out, HB.out⟩
end Go.Proofs.Yticppgopblgkbaa
