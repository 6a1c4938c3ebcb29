/-
  A state spelled as bytes: 'spell' of package sum.
-/
import Derived.Test.YthnodhlgfokfjaaDoorDigB
namespace Go.Proofs.YthnodhlgfokfjaaDoor
open Go.ChangeShapes Go.WideShapes Go.ChangeAt Go.RowKit
set_option linter.unusedVariables false

def spV (x : S8) (i : Nat) : Value := .int .u8 ((x.get (i / 4) / 2 ^ (24 - 8 * (i % 4)) % 256 : Nat) : Int)
theorem oneCell_sp (x : S8) (n : Nat) : (rowArr n (spV x)).all (·.oneCell') = true := by simp [rowArr, spV, Value.oneCell']

/-- Two rows of 32 bytes: the end's, and the one that is filled. -/
structure Spl (W wr : World) (x : S8) (k : Nat) : Prop where
  below : Below W.heap.size W wr
  out : Row wr (W.heap.size + 1) 27 32 0 (spV x)
  row : Row wr (W.heap.size + 2) 27 32 k (spV x)

theorem Spl.set {W wr : World} {x : S8} {k : Nat} (h : Spl W wr x k) (hk : k < 32) {v : Value} (hv : v = spV x k) : Spl W (wr.setCell ⟨W.heap.size + 2, k, none⟩ v) x (k + 1) :=
  ⟨h.below.setCell (by simp) _, h.out.other (by omega), h.row.set hk hv⟩

set_option maxRecDepth 100000 in
set_option maxHeartbeats 1000000 in
theorem spell_any (x : S8) (hx : x.Ok) (w : World) :
    Calls Tryd.prog 16 #[.agg (rowArr 8 (stV x))] w fun e w' => e = .returned (.agg (rowArr 32 (spV x))) ∧ Below w.heap.size w w' := by
  have HX := Lib.hid hx
  clear hx
  have hz : Hid (∀ c : Array Value, c.size = 32 → Spl w (((w.alloc (.cells (rowArr 8 (stV x)) 36)).alloc (.cells c 27)).alloc (.cells c 27)) x 0 ∧ (((w.alloc (.cells (rowArr 8 (stV x)) 36)).alloc (.cells c 27)).alloc (.cells c 27)).heap[w.heap.size]? = some (.cells (rowArr 8 (stV x)) 36)) := fun c hc =>
    ⟨⟨(((Below.refl _ _).alloc (Nat.le_refl _) _).alloc (by simp) _).alloc (by simp; omega) _, (Row.new' _ _ _ _ _ _ (by simp) hc).alloc _, Row.new' _ _ _ _ _ _ (by simp) hc⟩,
     by rw [Below.heap_alloc _ _ _ (by simp; omega), Below.heap_alloc _ _ _ (by simp)]; exact heap_alloc_last _ _⟩
  go_enter Tryd.func16, Tryd.ntmps16
  go_wp2_with (refine wpList_load_row rfl 36 _ rfl w.heap.size rfl 36 (rowArr 8 (stV x)) (0, 0) _ (hz.out _ rfl).2 Tryd.underlying36 rfl (by rw [rowArr_size]; kernel_rfl) ?_)
  go_loopw [8] (fun i wr => ∃ k : Nat, k ≤ 8 ∧ i = .int .i64 k ∧ Hid (Spl w wr x (4 * k))) (fun i _ => 8 - (intOf i).toNat)
  case atStart => exact ⟨0, by omega, rfl, (hz.out _ rfl).1⟩
  case round =>
    obtain ⟨k, hk, rfl, HK⟩ := hrel
    by_cases hlt : k < 8
    · have hi : (Instr.index 36 (.agg (rowArr 8 (stV x))) (.int .i64 (k : Int))).run Tryd.prog wr = .ok (.int .u32 ((x.get k : Nat) : Int)) wr := index_row Tryd.underlying36 (stV x) k hlt wr
      have hg := S8.get_lt HX.out k hlt
      have HV : Hid (∀ j, j < 4 → spV x (4 * k + j) = .int .u8 ((x.get k / 2 ^ (24 - 8 * j) % 256 : Nat) : Int)) := fun j hj => by
        unfold spV
        rw [show (4 * k + j) / 4 = k by omega, show (4 * k + j) % 4 = j by omega]
      generalize x.get k = g at *
      go_wp2_with fail
      clear hi
      go_loopw [12] (fun i wr => ∃ j : Nat, j ≤ 4 ∧ i = .int .i64 j ∧ Hid (Spl w wr x (4 * k + j))) (fun i _ => 4 - (intOf i).toNat)
      case atStart => exact ⟨0, by omega, rfl, HK⟩
      case round =>
        obtain ⟨j, hj, rfl, HJ⟩ := hrel
        by_cases hlj : j < 4
        · have hlo := HJ.out.row.loose (4 * k + j)
          obtain ⟨vk, hck⟩ := HJ.out.row.has (4 * k + j) (by omega)
          have HV2 := Lib.hid (HV.out j hlj)
          have HS : Hid (Spl w (wr.setCell ⟨w.heap.size + 1 + 1, 4 * k + j, none⟩ (.int .u8 ((g : Int) / 2 ^ (24 - 8 * j) % 256))) x (4 * k + (j + 1))) := HJ.out.set (by omega) (by rw [HV2.out]; simp)
          go_wp2_with fail
          go_roundw
          case rel => exact ⟨j + 1, by omega, by go_num, HS⟩
          case measure => simp [intOf]; omega
        · have hj4 : j = 4 := by omega
          subst hj4
          go_wp2_with fail
          go_roundw
          case rel => exact ⟨k + 1, by omega, by go_num, HJ⟩
          case measure => simp [intOf]; omega
    · have hk8 : k = 8 := by omega
      subst hk8
      have hwh := HK.out.row.whole
      obtain ⟨old, ho1, ho2, _⟩ := HK.out.out
      have HX : Hid ((wr.setRow (w.heap.size + 1) (rowArr 32 (spV x))).heap[w.heap.size + 1]? = some (.cells (rowArr 32 (spV x)) 27 (0, 0))) := setRow_heap _ _ _ _ _ _ ho1
      go_wp2_with (first | (refine wpList_load_row rfl 27 _ rfl (w.heap.size + 2) rfl 27 (rowArr 32 (spV x)) (0, 0) _ hwh Tryd.underlying27 rfl (by rw [rowArr_size]; kernel_rfl) ?_) | (refine wpList_store_row rfl 27 _ _ rfl (w.heap.size + 1) (rowArr 32 (spV x)) rfl rfl 27 old ho1 (by rw [rowArr_size]; kernel_rfl) (by rw [rowArr_size]; exact ho2) (oneCell_sp x 32) ?_))
      exact bodyPost_ret (v := .agg (rowArr 32 (spV x))) (results_cell_row rfl _ _ (w.heap.size + 1) 27 (rowArr 32 (spV x)) (0, 0) _ rfl HX.out Tryd.underlying27 rfl (by rw [rowArr_size]; kernel_rfl)) rfl ⟨rfl, below_setRow HK.out.below (by omega) _⟩

end Go.Proofs.YthnodhlgfokfjaaDoor
