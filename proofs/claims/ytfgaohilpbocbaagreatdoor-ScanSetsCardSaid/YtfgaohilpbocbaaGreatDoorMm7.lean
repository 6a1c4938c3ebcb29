/-
  'Digest' of package sum.
  'Digest' of package sum, of no bytes.
  The document's digest, its small parts: 'turned', 'Number', 'Wide' of package geyserref01.
-/
import Derived.Test.YtfgaohilpbocbaaGreatDoorMm6
import Derived.Laws.AppendOwn
import Derived.Laws.AppendOwnNone
import Derived.OwnWalk
section
namespace Go.Proofs.YtfgaohilpbocbaaGreatDoor.Sha
open Go.ChangeShapes Go.WideShapes Go.ChangeAt Go.RowKit
set_option linter.unusedVariables false

/-- The first state, as it is laid. -/
def Starts (w : World) : Prop := ∃ t fr, w.heap[0]? = some (.cells (rowArr 8 (stV start8)) t fr)

theorem Starts.below {w w' : World} {B : Nat} (h : Starts w) (hB : 0 < B) (b : Below B w w') : Starts w' := by
  obtain ⟨t, fr, h⟩ := h
  exact ⟨t, fr, by rw [b.block _ hB]; exact h⟩

theorem mix_at (b off cap : Nat) (f : Nat → Nat) (x : S8) (hx : x.Ok) (w : World) (hb : BytesF f) (hc : BlockIn w b off f) (hK : Ks w) :
    Calls Tryz.prog 100 #[.agg #[.int .u32 (x.p : Int), .int .u32 (x.q : Int), .int .u32 (x.r : Int), .int .u32 (x.s : Int), .int .u32 (x.t : Int), .int .u32 (x.u : Int), .int .u32 (x.v : Int), .int .u32 (x.w : Int)], .slice (some ⟨b, off, none⟩) 64 cap] w
      fun e w' => e = .returned (.agg (rowArr 8 (stV (mixN x f)))) ∧ Below w.heap.size w w' := mix_any b off cap f x hx w hb hc hK

structure Dg (W wr : World) (x : S8) : Prop where
  below : Below W.heap.size W wr
  out : Row wr W.heap.size 50 32 0 zV
  row : Row wr (W.heap.size + 1) 196 8 8 (stV x)

theorem Dg.drew {W wr : World} {x : S8} (h : Dg W wr x) (q : Nat) : Dg W (wr.drewN q) x := ⟨below_drewN h.below q, h.out, h.row⟩

/-- A block is taken in: the call, and the state's row written. -/
theorem Dg.next {W wr w5 : World} {x y : S8} (h : Dg W wr x) (b : Below wr.heap.size wr w5) : Dg W (w5.setRow (W.heap.size + 1) (rowArr 8 (stV y))) y :=
  ⟨Go.Proofs.YtfgaohilpbocbaaGreatDoor.Sha.below_setRow (h.below.trans (b.mono h.below.size)) (by omega) _, (h.out.below b h.out.lt).setRow_other (by omega) _, (h.row.below b h.row.lt).whole_set⟩

theorem Dg.old {W wr w5 : World} {x : S8} (h : Dg W wr x) (b : Below wr.heap.size wr w5) : w5.heap[W.heap.size + 1]? = some (.cells (rowArr 8 (stV x)) 196 (0, 0)) := (h.row.below b h.row.lt).whole

theorem padN_head (l : List Nat) (i : Nat) (h : i < l.length) : (padN l).getD i 0 = l[i] := by
  unfold padN
  simp [List.getD, List.getElem?_append, h]

theorem block_of_bytes {w : World} {b off : Nat} {l : List Nat} (h : BytesIn w b off l) (t : Nat) (ht : t + 64 ≤ l.length) : BlockIn w b (off + t) (fun j => (padN l).getD (t + j) 0) := fun i hi => by
  show w.cell? ⟨b, off + t + i, none⟩ = some (.int .u8 (((padN l).getD (t + i) 0 : Nat) : Int))
  rw [padN_head l (t + i) (by omega), Nat.add_assoc]
  exact h (t + i) (by omega)

/-- The last blocks are the padded message's. -/
theorem tail_get (l : List Nat) (k sz i : Nat) (hk : l.length / 64 = k) (hsz : (padN l).length = 64 * k + sz) (hi : i < sz) :
    tlN (l.drop (64 * k)) l.length sz 8 i = (padN l).getD (64 * k + i) 0 := by
  have hlen := padN_length l
  have hdl : (l.drop (64 * k)).length = l.length - 64 * k := by simp
  have hg : gap l.length = sz - 9 - (l.length - 64 * k) ∧ 9 + (l.length - 64 * k) ≤ sz := by
    have : l.length - 64 * k < 64 := by omega
    omega
  unfold tlN tl0 padN
  rw [hdl]
  by_cases h1 : sz - 8 ≤ i
  · rw [if_pos h1]
    simp only [List.getD]
    rw [List.getElem?_append_right (by omega), show 64 * k + i - l.length = (64 * k + i - l.length - 1) + 1 by omega, List.getElem?_cons_succ, List.getElem?_append_right (by simp; omega)]
    simp only [List.length_replicate, be64]
    have e : 64 * k + i - l.length - 1 - gap l.length = i - (sz - 8) := by omega
    rw [e]
    have e2 : i - (sz - 8) < 8 := by omega
    simp [e2]
    congr 3
    omega
  · rw [if_neg h1]
    by_cases h2 : i < l.length - 64 * k
    · rw [if_pos h2]
      simp only [List.getD]
      rw [List.getElem?_append_left (by omega)]
      simp
    · rw [if_neg h2]
      by_cases h3 : i = l.length - 64 * k
      · rw [if_pos h3]
        simp only [List.getD]
        rw [List.getElem?_append_right (by omega), show 64 * k + i - l.length = 0 by omega]
        rfl
      · rw [if_neg h3]
        simp only [List.getD]
        rw [List.getElem?_append_right (by omega), show 64 * k + i - l.length = (64 * k + i - l.length - 1) + 1 by omega, List.getElem?_cons_succ, List.getElem?_append_left (by simp; omega)]
        simp [show 64 * k + i - l.length - 1 < gap l.length by omega]

theorem block_of_tail {w : World} {B sz k : Nat} {l : List Nat} (h : Row w B 5 sz sz (tlV (l.drop (64 * k)) l.length sz 8)) (hk : l.length / 64 = k) (hsz : (padN l).length = 64 * k + sz) (t : Nat) (ht : t + 64 ≤ sz) :
    BlockIn w B t (fun j => (padN l).getD (64 * k + t + j) 0) := fun i hi => by
  show w.cell? ⟨B, t + i, none⟩ = some (.int .u8 (((padN l).getD (64 * k + t + i) 0 : Nat) : Int))
  rw [h.cell (t + i) (by omega), Nat.add_assoc, ← tail_get l k sz (t + i) hk hsz (by omega)]
  rfl

set_option maxRecDepth 100000 in
set_option maxHeartbeats 1000000 in
theorem digest_core (b off cap : Nat) (l : List Nat) (x0 : S8) (HX0 : Hid (comp (padN l) ((padN l).length / 64) = x0)) (w : World) (hl : l.length ≤ 1000000) (hlc : l.length ≤ cap) (hcm : cap ≤ maxLen) (hb : IsByte l) (hc : BytesIn w b off l) (hK : Ks w) (hS : Starts w) :
    Calls Tryz.prog 57 #[.slice (some ⟨b, off, none⟩) l.length cap] w fun e w' => e = .returned (.agg (rowArr 32 (spV x0))) ∧ Below w.heap.size w w' := by
  unfold maxLen at hcm
  have hlt := hK.lt
  have HB := Lib.hid hb
  have HC := Lib.hid hc
  have HK := Lib.hid hK
  have HS := Lib.hid hS
  clear hb hc hK hS
  obtain ⟨t0, fr0, hh0⟩ := HS.out
  have HST : Hid (∀ c : Array Value, (w.alloc (.cells c 50)).heap[0]? = some (.cells (rowArr 8 (stV start8)) t0 fr0)) := fun c => by rw [Below.heap_alloc _ _ _ (by omega)]; exact hh0
  clear hh0
  go_enter Tryz.func57, Tryz.ntmps57
  go_wp2_with (first | (refine wpList_load_row rfl 196 _ rfl 0 rfl t0 (rowArr 8 (stV start8)) fr0 _ (HST.out _) Tryz.underlying196 rfl (by rw [rowArr_size]; kernel_rfl) ?_) | (refine wpList_store_row rfl 196 _ _ rfl (w.heap.size + 1) (rowArr 8 (stV start8)) rfl rfl 196 _ (by simpa using heap_alloc_last (w.alloc _) _) (by rw [rowArr_size]; kernel_rfl) (by rw [rowArr_size]; rfl) (oneCell_st start8) ?_))
  go_loopw [5] (fun i wr => ∃ k t : Nat, Hid (t = 64 * k) ∧ t ≤ l.length ∧ i = .int .i64 (t : Int) ∧ Hid (Dg w wr (comp (padN l) k))) (fun i _ => l.length - (intOf i).toNat)
  case atStart => exact ⟨0, 0, rfl, by omega, rfl, ⟨Go.Proofs.YtfgaohilpbocbaaGreatDoor.Sha.below_setRow (((Below.refl _ _).alloc (Nat.le_refl _) _).alloc (by simp) _) (by omega) _, Row.setRow_other ((Row.new' _ _ _ _ _ _ rfl rfl).alloc _) (by omega) _, Row.whole_set (k := 0) (g := zV) (Row.new' _ _ _ _ _ _ (by simp) rfl)⟩⟩
  case round =>
    obtain ⟨k, t, HT, htl, rfl, HD⟩ := hrel
    by_cases hlt2 : (t : Int) < (l.length : Int) / 64 * 64
    · have htk : t + 64 ≤ l.length := by have := HT.out; omega
      have hrow := HD.out.row
      have hok := comp_ok (padN l) k
      have hnx : mixN (comp (padN l) k) (fun j => (padN l).getD (t + j) 0) = comp (padN l) (k + 1) := by rw [HT.out]; rfl
      have HNX := Lib.hid hnx
      clear hnx
      generalize comp (padN l) k = x at *
      have q0 : wr.cell? ⟨w.heap.size + 1, 0, none⟩ = some (.int .u32 (x.p : Int)) := hrow.cell 0 (by omega)
      have q1 : wr.cell? ⟨w.heap.size + 1, 1, none⟩ = some (.int .u32 (x.q : Int)) := hrow.cell 1 (by omega)
      have q2 : wr.cell? ⟨w.heap.size + 1, 2, none⟩ = some (.int .u32 (x.r : Int)) := hrow.cell 2 (by omega)
      have q3 : wr.cell? ⟨w.heap.size + 1, 3, none⟩ = some (.int .u32 (x.s : Int)) := hrow.cell 3 (by omega)
      have q4 : wr.cell? ⟨w.heap.size + 1, 4, none⟩ = some (.int .u32 (x.t : Int)) := hrow.cell 4 (by omega)
      have q5 : wr.cell? ⟨w.heap.size + 1, 5, none⟩ = some (.int .u32 (x.u : Int)) := hrow.cell 5 (by omega)
      have q6 : wr.cell? ⟨w.heap.size + 1, 6, none⟩ = some (.int .u32 (x.v : Int)) := hrow.cell 6 (by omega)
      have q7 : wr.cell? ⟨w.heap.size + 1, 7, none⟩ = some (.int .u32 (x.w : Int)) := hrow.cell 7 (by omega)
      have HM : Hid (Calls Tryz.prog 100 #[.agg #[.int .u32 (x.p : Int), .int .u32 (x.q : Int), .int .u32 (x.r : Int), .int .u32 (x.s : Int), .int .u32 (x.t : Int), .int .u32 (x.u : Int), .int .u32 (x.v : Int), .int .u32 (x.w : Int)], .slice (some ⟨b, off + t, none⟩) 64 (cap - t)] wr.drew
        fun e w' => e = .returned (.agg (rowArr 8 (stV (comp (padN l) (k + 1))))) ∧ Below wr.drew.heap.size wr.drew w') := by
          rw [← HNX.out]
          exact mix_at b (off + t) (cap - t) _ x hok wr.drew (getD_byte (padN_byte HB.out) t) (block_of_bytes (HC.out.below (Nat.le_refl _) HD.out.below.drew) t htk) (HK.out.below hlt HD.out.below.drew)
      have s1 : IntKind.i64.wrap ((t : Int) + 64) = (t : Int) + 64 := IntWalk.i64_in _ (by omega)
      have s2 : ((t : Int) + 64).toNat = t + 64 := by omega
      have s3 : (0 : Int) ≤ (t : Int) + 64 := by omega
      have s4 : (t : Int) ≤ (t : Int) + 64 := by omega
      have s5 : (t : Int) + 64 ≤ (cap : Int) := by omega
      have s6 : ¬ cap = t := by omega
      have s7 : t + 64 - t = 64 := by omega
      clear hrow
      go_wp2_with fail
      refine wp_region_still_tail 6 (by kernel_rfl) (by kernel_rfl) ?_
      simp only [List.take_succ_cons, List.take_zero, List.drop_succ_cons, List.drop_zero]
      repeat still_step
      refine wpStill_nil ?_
      change wpList _ _ _ _ _ wr.drew
      clear q0 q1 q2 q3 q4 q5 q6 q7 s1 s2 s3 s4 s5 s6 s7
      go_wp2_with (first | (go_at_call 100; (refine HM.out.mono ?_); rintro e w5 ⟨rfl, b5⟩; have HO5 : Hid (w5.heap[w.heap.size + 1]? = some (.cells (rowArr 8 (stV x)) 196 (0, 0))) := (HD.out.drew 1).old b5; have HD5 : Hid (Dg w (w5.setRow (w.heap.size + 1) (rowArr 8 (stV (comp (padN l) (k + 1))))) (comp (padN l) (k + 1))) := (HD.out.drew 1).next b5; clear b5) | (refine wpList_store_row rfl 196 _ _ rfl (w.heap.size + 1) (rowArr 8 (stV (comp (padN l) (k + 1)))) rfl rfl 196 _ HO5.out (by rw [rowArr_size]; kernel_rfl) (by rw [rowArr_size, rowArr_size]) (oneCell_st _) ?_))
      go_roundw
      case rel => exact ⟨k + 1, t + 64, by have := HT.out; show _ = _; omega, by omega, by go_num, HD5⟩
      case measure => simp [intOf]; omega
    · have hk : l.length / 64 = k := by have := HT.out; omega
      have htk : t = 64 * k := HT.out
      have hplen := padN_length l
      have hpmod := padN_mod l
      obtain ⟨sz, hsz⟩ : ∃ sz, sz = (padN l).length - 64 * k := ⟨_, rfl⟩
      have hgap : gap l.length = (119 - l.length % 64) % 64 := rfl
      have hsz1 : (sz = 64 ∧ l.length - 64 * k + 9 ≤ 64) ∨ (sz = 128 ∧ 64 < l.length - 64 * k + 9 ∧ l.length - 64 * k < 64) := by omega
      have hszp : (padN l).length = 64 * k + sz := by omega
      have hdl : (l.drop (64 * k)).length = l.length - 64 * k := by simp
      have hw64 : l.length / 64 * 64 = 64 * k := by omega
      have HPAD : Hid (∀ (a' : Option Addr) (cap' : Nat), BytesAt wr a' (l.drop (64 * k)) → Calls Tryz.prog 101 #[.slice a' (l.length - l.length / 64 * 64) cap', .int .i64 (l.length : Int)] wr fun e w' => e = .returned (.slice (some ⟨wr.heap.size, 0, none⟩) sz sz) ∧ Pad wr w' (l.drop (64 * k)) l.length sz 8) := by
        intro a' cap' hba
        have hbd : IsByte (l.drop (64 * k)) := fun c hc => HB.out c (List.mem_of_mem_drop hc)
        rw [hw64, ← hdl]
        rcases hsz1 with ⟨rfl, h⟩ | ⟨rfl, h, h'⟩
        · exact pad64 a' cap' _ _ wr (by omega) (by omega) hbd hba
        · exact pad128 a' cap' _ _ wr (by omega) (by omega) (by omega) hbd hba
      have HBr : Hid (BytesIn wr b (off + l.length / 64 * 64) (l.drop (64 * k))) := by
        intro i hi
        have := HC.out.below (Nat.le_refl _) HD.out.below (64 * k + i) (by omega)
        rw [hw64, Nat.add_assoc, this]
        simp
      have HNIL : Hid (cap = l.length / 64 * 64 → l.drop (64 * k) = []) := fun h => List.length_eq_zero_iff.1 (by omega)
      have HKK := Lib.hid hk
      have HSZ := Lib.hid hszp
      have hsz2 : sz ≤ 128 := by omega
      have HSM : Hid (sz % 64 = 0) := by show sz % 64 = 0; omega
      have hd2 : decide ((t : Int) < (l.length : Int) / 64 * 64) = false := by simp; omega
      have HP2 := Lib.hid (HPAD.out (some ⟨b, off + l.length / 64 * 64, none⟩) (cap - l.length / 64 * 64) (.inr ⟨b, _, rfl, HBr.out⟩))
      have HP1 : Hid (cap = l.length / 64 * 64 → _) := fun h => HPAD.out (some ⟨b, off, none⟩) 0 (.inl (HNIL.out h))
      clear hsz1 hszp hsz hgap hplen hpmod hdl hk htk hw64
      have HLT : Hid (w.heap.size + 1 < wr.heap.size) := HD.out.row.lt
      have HX : Hid (k + sz / 64 = (padN l).length / 64) := by have := HSZ.out; have := HSM.out; show _ = _; omega
      clear HPAD HBr HNIL
      by_cases hcw : cap = l.length / 64 * 64
      · subst hcw
        have hp0 := HP1.out rfl
        rw [show l.length - l.length / 64 * 64 = 0 by omega] at hp0
        have HP0 := Lib.hid hp0
        clear HP1 HP2 hp0
        go_wp2_with fail
        (with_reducible refine HP0.out.mono ?_)
        clear HP0
        rintro e w6 ⟨rfl, hpd⟩
        have HRT := Lib.hid hpd.row
        have HD6 : Hid (Dg w w6 (comp (padN l) k)) := ⟨HD.out.below.trans (hpd.below.mono HD.out.below.size), HD.out.out.below hpd.below HD.out.out.lt, HD.out.row.below hpd.below HD.out.row.lt⟩
        clear hpd HD
        generalize wr.heap.size = B at *
        go_wp2_with fail
        go_loopw [7] (fun i wq => ∃ j t : Nat, Hid (t = 64 * j) ∧ t ≤ sz ∧ i = .int .i64 (t : Int) ∧ Hid (Dg w wq (comp (padN l) (k + j))) ∧ Hid (Row wq B 5 sz sz (tlV (l.drop (64 * k)) l.length sz 8))) (fun i _ => sz - (intOf i).toNat)
        case atStart => exact ⟨0, 0, rfl, by omega, rfl, HD6, HRT⟩
        case round =>
          obtain ⟨j, t, HT2, ht2, rfl, HDq, HRq⟩ := hrel
          by_cases hlt3 : t < sz
          · have ht64 : t + 64 ≤ sz := by have := HT2.out; have := HSM.out; omega
            have hrow := HDq.out.row
            have hok := comp_ok (padN l) (k + j)
            have hnx : mixN (comp (padN l) (k + j)) (fun i => (padN l).getD (64 * k + t + i) 0) = comp (padN l) (k + (j + 1)) := by
              rw [HT2.out, show 64 * k + 64 * j = 64 * (k + j) by omega]; rfl
            have HNX := Lib.hid hnx
            clear hnx
            generalize comp (padN l) (k + j) = x at *
            have q0 : wr.cell? ⟨w.heap.size + 1, 0, none⟩ = some (.int .u32 (x.p : Int)) := hrow.cell 0 (by omega)
            have q1 : wr.cell? ⟨w.heap.size + 1, 1, none⟩ = some (.int .u32 (x.q : Int)) := hrow.cell 1 (by omega)
            have q2 : wr.cell? ⟨w.heap.size + 1, 2, none⟩ = some (.int .u32 (x.r : Int)) := hrow.cell 2 (by omega)
            have q3 : wr.cell? ⟨w.heap.size + 1, 3, none⟩ = some (.int .u32 (x.s : Int)) := hrow.cell 3 (by omega)
            have q4 : wr.cell? ⟨w.heap.size + 1, 4, none⟩ = some (.int .u32 (x.t : Int)) := hrow.cell 4 (by omega)
            have q5 : wr.cell? ⟨w.heap.size + 1, 5, none⟩ = some (.int .u32 (x.u : Int)) := hrow.cell 5 (by omega)
            have q6 : wr.cell? ⟨w.heap.size + 1, 6, none⟩ = some (.int .u32 (x.v : Int)) := hrow.cell 6 (by omega)
            have q7 : wr.cell? ⟨w.heap.size + 1, 7, none⟩ = some (.int .u32 (x.w : Int)) := hrow.cell 7 (by omega)
            have HM : Hid (Calls Tryz.prog 100 #[.agg #[.int .u32 (x.p : Int), .int .u32 (x.q : Int), .int .u32 (x.r : Int), .int .u32 (x.s : Int), .int .u32 (x.t : Int), .int .u32 (x.u : Int), .int .u32 (x.v : Int), .int .u32 (x.w : Int)], .slice (some ⟨B, t, none⟩) 64 (sz - t)] wr.drew
              fun e w' => e = .returned (.agg (rowArr 8 (stV (comp (padN l) (k + (j + 1)))))) ∧ Below wr.drew.heap.size wr.drew w') := by
                rw [← HNX.out]
                exact mix_at B t (sz - t) _ x hok wr.drew (getD_byte (padN_byte HB.out) (64 * k + t)) (block_of_tail (HRq.out.drew 1) HKK.out HSZ.out t ht64) (HK.out.below hlt HDq.out.below.drew)
            have s1 : IntKind.i64.wrap ((t : Int) + 64) = (t : Int) + 64 := IntWalk.i64_in _ (by omega)
            have s2 : ((t : Int) + 64).toNat = t + 64 := by omega
            have s3 : (0 : Int) ≤ (t : Int) + 64 := by omega
            have s4 : (t : Int) ≤ (t : Int) + 64 := by omega
            have s5 : (t : Int) + 64 ≤ (sz : Int) := by omega
            have s6 : ¬ sz = t := by omega
            have s7 : t + 64 - t = 64 := by omega
            have hd3 : decide ((t : Int) < (sz : Int)) = true := by simp; omega
            clear hrow
            go_wp2_with fail
            refine wp_region_still_tail 6 (by kernel_rfl) (by kernel_rfl) ?_
            simp only [List.take_succ_cons, List.take_zero, List.drop_succ_cons, List.drop_zero]
            repeat still_step
            refine wpStill_nil ?_
            change wpList _ _ _ _ _ wr.drew
            clear q0 q1 q2 q3 q4 q5 q6 q7 s1 s2 s3 s4 s5 s6 s7
            go_wp2_with (first | (go_at_call 100; (refine HM.out.mono ?_); rintro e w5 ⟨rfl, b5⟩; have HO5 : Hid (w5.heap[w.heap.size + 1]? = some (.cells (rowArr 8 (stV x)) 196 (0, 0))) := (HDq.out.drew 1).old b5; have HD5 : Hid (Dg w (w5.setRow (w.heap.size + 1) (rowArr 8 (stV (comp (padN l) (k + (j + 1)))))) (comp (padN l) (k + (j + 1)))) := (HDq.out.drew 1).next b5; have HR5 : Hid (Row (w5.setRow (w.heap.size + 1) (rowArr 8 (stV (comp (padN l) (k + (j + 1)))))) B 5 sz sz (tlV (l.drop (64 * k)) l.length sz 8)) := ((HRq.out.drew 1).below b5 (HRq.out.drew 1).lt).setRow_other (by have := HLT.out; omega) _; clear b5) | (refine wpList_store_row rfl 196 _ _ rfl (w.heap.size + 1) (rowArr 8 (stV (comp (padN l) (k + (j + 1))))) rfl rfl 196 _ HO5.out (by rw [rowArr_size]; kernel_rfl) (by rw [rowArr_size, rowArr_size]) (oneCell_st _) ?_))
            go_roundw
            case rel => exact ⟨j + 1, t + 64, by have := HT2.out; show _ = _; omega, by omega, by go_num, HD5, HR5⟩
            case measure => simp [intOf]; omega
          · have hts : t = sz := by omega
            subst hts
            have hkj : k + j = (padN l).length / 64 := by have := HX.out; have := HT2.out; omega
            rw [hkj, HX0.out] at HDq
            have hok : x0.Ok := by rw [← HX0.out]; exact comp_ok (padN l) ((padN l).length / 64)
            have HWH := Lib.hid HDq.out.row.whole
            have HSP := Lib.hid (spell_any x0 hok wr)
            have HKJ := Lib.hid hkj
            clear hkj
            go_wp2_with (first | (refine wpList_load_row rfl 196 _ rfl (w.heap.size + 1) rfl 196 (rowArr 8 (stV x0)) (0, 0) _ HWH.out Tryz.underlying196 rfl (by rw [rowArr_size]; kernel_rfl) ?_) | (go_at_call 102; (refine HSP.out.mono ?_); rintro e w7 ⟨rfl, b7⟩; obtain ⟨old, ho1, ho2, _⟩ := HDq.out.out.below b7 HDq.out.out.lt; have HO := Lib.hid ho1; have HO2 := Lib.hid ho2; have HB7 : Hid (Below w.heap.size w w7) := HDq.out.below.trans (b7.mono HDq.out.below.size); clear b7 ho1 ho2) | (refine wpList_store_row rfl 50 _ _ rfl w.heap.size (rowArr 32 (spV x0)) rfl rfl 50 _ HO.out (by rw [rowArr_size]; kernel_rfl) (by rw [rowArr_size]; exact HO2.out) (oneCell_sp x0 32) ?_))
            exact bodyPost_ret (v := .agg (rowArr 32 (spV x0))) (results_cell_row rfl _ _ w.heap.size 50 (rowArr 32 (spV x0)) (0, 0) _ rfl (setRow_heap _ _ _ _ _ _ HO.out) Tryz.underlying50 rfl (by rw [rowArr_size]; kernel_rfl)) rfl ⟨rfl, Go.Proofs.YtfgaohilpbocbaaGreatDoor.Sha.below_setRow HB7.out (Nat.le_refl _) _⟩
      · go_wp2_with fail
        (with_reducible refine HP2.out.mono ?_)
        clear HP1 HP2
        rintro e w6 ⟨rfl, hpd⟩
        have HRT := Lib.hid hpd.row
        have HD6 : Hid (Dg w w6 (comp (padN l) k)) := ⟨HD.out.below.trans (hpd.below.mono HD.out.below.size), HD.out.out.below hpd.below HD.out.out.lt, HD.out.row.below hpd.below HD.out.row.lt⟩
        clear hpd HD
        generalize wr.heap.size = B at *
        go_wp2_with fail
        go_loopw [7] (fun i wq => ∃ j t : Nat, Hid (t = 64 * j) ∧ t ≤ sz ∧ i = .int .i64 (t : Int) ∧ Hid (Dg w wq (comp (padN l) (k + j))) ∧ Hid (Row wq B 5 sz sz (tlV (l.drop (64 * k)) l.length sz 8))) (fun i _ => sz - (intOf i).toNat)
        case atStart => exact ⟨0, 0, rfl, by omega, rfl, HD6, HRT⟩
        case round =>
          obtain ⟨j, t, HT2, ht2, rfl, HDq, HRq⟩ := hrel
          by_cases hlt3 : t < sz
          · have ht64 : t + 64 ≤ sz := by have := HT2.out; have := HSM.out; omega
            have hrow := HDq.out.row
            have hok := comp_ok (padN l) (k + j)
            have hnx : mixN (comp (padN l) (k + j)) (fun i => (padN l).getD (64 * k + t + i) 0) = comp (padN l) (k + (j + 1)) := by
              rw [HT2.out, show 64 * k + 64 * j = 64 * (k + j) by omega]; rfl
            have HNX := Lib.hid hnx
            clear hnx
            generalize comp (padN l) (k + j) = x at *
            have q0 : wr.cell? ⟨w.heap.size + 1, 0, none⟩ = some (.int .u32 (x.p : Int)) := hrow.cell 0 (by omega)
            have q1 : wr.cell? ⟨w.heap.size + 1, 1, none⟩ = some (.int .u32 (x.q : Int)) := hrow.cell 1 (by omega)
            have q2 : wr.cell? ⟨w.heap.size + 1, 2, none⟩ = some (.int .u32 (x.r : Int)) := hrow.cell 2 (by omega)
            have q3 : wr.cell? ⟨w.heap.size + 1, 3, none⟩ = some (.int .u32 (x.s : Int)) := hrow.cell 3 (by omega)
            have q4 : wr.cell? ⟨w.heap.size + 1, 4, none⟩ = some (.int .u32 (x.t : Int)) := hrow.cell 4 (by omega)
            have q5 : wr.cell? ⟨w.heap.size + 1, 5, none⟩ = some (.int .u32 (x.u : Int)) := hrow.cell 5 (by omega)
            have q6 : wr.cell? ⟨w.heap.size + 1, 6, none⟩ = some (.int .u32 (x.v : Int)) := hrow.cell 6 (by omega)
            have q7 : wr.cell? ⟨w.heap.size + 1, 7, none⟩ = some (.int .u32 (x.w : Int)) := hrow.cell 7 (by omega)
            have HM : Hid (Calls Tryz.prog 100 #[.agg #[.int .u32 (x.p : Int), .int .u32 (x.q : Int), .int .u32 (x.r : Int), .int .u32 (x.s : Int), .int .u32 (x.t : Int), .int .u32 (x.u : Int), .int .u32 (x.v : Int), .int .u32 (x.w : Int)], .slice (some ⟨B, t, none⟩) 64 (sz - t)] wr.drew
              fun e w' => e = .returned (.agg (rowArr 8 (stV (comp (padN l) (k + (j + 1)))))) ∧ Below wr.drew.heap.size wr.drew w') := by
                rw [← HNX.out]
                exact mix_at B t (sz - t) _ x hok wr.drew (getD_byte (padN_byte HB.out) (64 * k + t)) (block_of_tail (HRq.out.drew 1) HKK.out HSZ.out t ht64) (HK.out.below hlt HDq.out.below.drew)
            have s1 : IntKind.i64.wrap ((t : Int) + 64) = (t : Int) + 64 := IntWalk.i64_in _ (by omega)
            have s2 : ((t : Int) + 64).toNat = t + 64 := by omega
            have s3 : (0 : Int) ≤ (t : Int) + 64 := by omega
            have s4 : (t : Int) ≤ (t : Int) + 64 := by omega
            have s5 : (t : Int) + 64 ≤ (sz : Int) := by omega
            have s6 : ¬ sz = t := by omega
            have s7 : t + 64 - t = 64 := by omega
            have hd3 : decide ((t : Int) < (sz : Int)) = true := by simp; omega
            clear hrow
            go_wp2_with fail
            refine wp_region_still_tail 6 (by kernel_rfl) (by kernel_rfl) ?_
            simp only [List.take_succ_cons, List.take_zero, List.drop_succ_cons, List.drop_zero]
            repeat still_step
            refine wpStill_nil ?_
            change wpList _ _ _ _ _ wr.drew
            clear q0 q1 q2 q3 q4 q5 q6 q7 s1 s2 s3 s4 s5 s6 s7
            go_wp2_with (first | (go_at_call 100; (refine HM.out.mono ?_); rintro e w5 ⟨rfl, b5⟩; have HO5 : Hid (w5.heap[w.heap.size + 1]? = some (.cells (rowArr 8 (stV x)) 196 (0, 0))) := (HDq.out.drew 1).old b5; have HD5 : Hid (Dg w (w5.setRow (w.heap.size + 1) (rowArr 8 (stV (comp (padN l) (k + (j + 1)))))) (comp (padN l) (k + (j + 1)))) := (HDq.out.drew 1).next b5; have HR5 : Hid (Row (w5.setRow (w.heap.size + 1) (rowArr 8 (stV (comp (padN l) (k + (j + 1)))))) B 5 sz sz (tlV (l.drop (64 * k)) l.length sz 8)) := ((HRq.out.drew 1).below b5 (HRq.out.drew 1).lt).setRow_other (by have := HLT.out; omega) _; clear b5) | (refine wpList_store_row rfl 196 _ _ rfl (w.heap.size + 1) (rowArr 8 (stV (comp (padN l) (k + (j + 1))))) rfl rfl 196 _ HO5.out (by rw [rowArr_size]; kernel_rfl) (by rw [rowArr_size, rowArr_size]) (oneCell_st _) ?_))
            go_roundw
            case rel => exact ⟨j + 1, t + 64, by have := HT2.out; show _ = _; omega, by omega, by go_num, HD5, HR5⟩
            case measure => simp [intOf]; omega
          · have hts : t = sz := by omega
            subst hts
            have hkj : k + j = (padN l).length / 64 := by have := HX.out; have := HT2.out; omega
            rw [hkj, HX0.out] at HDq
            have hok : x0.Ok := by rw [← HX0.out]; exact comp_ok (padN l) ((padN l).length / 64)
            have HWH := Lib.hid HDq.out.row.whole
            have HSP := Lib.hid (spell_any x0 hok wr)
            have HKJ := Lib.hid hkj
            clear hkj
            go_wp2_with (first | (refine wpList_load_row rfl 196 _ rfl (w.heap.size + 1) rfl 196 (rowArr 8 (stV x0)) (0, 0) _ HWH.out Tryz.underlying196 rfl (by rw [rowArr_size]; kernel_rfl) ?_) | (go_at_call 102; (refine HSP.out.mono ?_); rintro e w7 ⟨rfl, b7⟩; obtain ⟨old, ho1, ho2, _⟩ := HDq.out.out.below b7 HDq.out.out.lt; have HO := Lib.hid ho1; have HO2 := Lib.hid ho2; have HB7 : Hid (Below w.heap.size w w7) := HDq.out.below.trans (b7.mono HDq.out.below.size); clear b7 ho1 ho2) | (refine wpList_store_row rfl 50 _ _ rfl w.heap.size (rowArr 32 (spV x0)) rfl rfl 50 _ HO.out (by rw [rowArr_size]; kernel_rfl) (by rw [rowArr_size]; exact HO2.out) (oneCell_sp x0 32) ?_))
            exact bodyPost_ret (v := .agg (rowArr 32 (spV x0))) (results_cell_row rfl _ _ w.heap.size 50 (rowArr 32 (spV x0)) (0, 0) _ rfl (setRow_heap _ _ _ _ _ _ HO.out) Tryz.underlying50 rfl (by rw [rowArr_size]; kernel_rfl)) rfl ⟨rfl, Go.Proofs.YtfgaohilpbocbaaGreatDoor.Sha.below_setRow HB7.out (Nat.le_refl _) _⟩

theorem digest_some (b off cap : Nat) (l : List Nat) (w : World) (hl : l.length ≤ 1000000) (hlc : l.length ≤ cap) (hcm : cap ≤ maxLen) (hb : IsByte l) (hc : BytesIn w b off l) (hK : Ks w) (hS : Starts w) :
    Calls Tryz.prog 57 #[.slice (some ⟨b, off, none⟩) l.length cap] w fun e w' => e = .returned (.agg (rowArr 32 (spV (comp (padN l) ((padN l).length / 64))))) ∧ Below w.heap.size w w' :=
  digest_core b off cap l _ rfl w hl hlc hcm hb hc hK hS

end Go.Proofs.YtfgaohilpbocbaaGreatDoor.Sha
end

section
namespace Go.Proofs.YtfgaohilpbocbaaGreatDoor.Sha
open Go.ChangeShapes Go.WideShapes Go.ChangeAt Go.RowKit
set_option linter.unusedVariables false

set_option maxRecDepth 100000 in
set_option maxHeartbeats 1000000 in
theorem digest_void (a : Option Addr) (cap : Nat) (x0 : S8) (HX0 : Hid (comp (padN []) ((padN []).length / 64) = x0)) (w : World) (hcm : cap ≤ maxLen) (hK : Ks w) (hS : Starts w) :
    Calls Tryz.prog 57 #[.slice a 0 cap] w fun e w' => e = .returned (.agg (rowArr 32 (spV x0))) ∧ Below w.heap.size w w' := by
  unfold maxLen at hcm
  have hlt := hK.lt
  have HK := Lib.hid hK
  have HS := Lib.hid hS
  clear hK hS
  obtain ⟨t0, fr0, hh0⟩ := HS.out
  have HST : Hid (∀ c : Array Value, (w.alloc (.cells c 50)).heap[0]? = some (.cells (rowArr 8 (stV start8)) t0 fr0)) := fun c => by rw [Below.heap_alloc _ _ _ (by omega)]; exact hh0
  clear hh0
  go_enter Tryz.func57, Tryz.ntmps57
  go_wp2_with (first | (refine wpList_load_row rfl 196 _ rfl 0 rfl t0 (rowArr 8 (stV start8)) fr0 _ (HST.out _) Tryz.underlying196 rfl (by rw [rowArr_size]; kernel_rfl) ?_) | (refine wpList_store_row rfl 196 _ _ rfl (w.heap.size + 1) (rowArr 8 (stV start8)) rfl rfl 196 _ (by simpa using heap_alloc_last (w.alloc _) _) (by rw [rowArr_size]; kernel_rfl) (by rw [rowArr_size]; rfl) (oneCell_st start8) ?_))
  go_loopw [5] (fun i wr => i = .int .i64 0 ∧ Hid (Dg w wr start8)) (fun i _ => 0)
  case atStart => exact ⟨rfl, ⟨Go.Proofs.YtfgaohilpbocbaaGreatDoor.Sha.below_setRow (((Below.refl _ _).alloc (Nat.le_refl _) _).alloc (by simp) _) (by omega) _, Row.setRow_other ((Row.new' _ _ _ _ _ _ rfl rfl).alloc _) (by omega) _, Row.whole_set (k := 0) (g := zV) (Row.new' _ _ _ _ _ _ (by simp) rfl)⟩⟩
  case round =>
    obtain ⟨rfl, HD⟩ := hrel
    obtain ⟨l, HL⟩ : ∃ l : List Nat, Hid (l = []) := ⟨[], rfl⟩
    obtain ⟨k, HK0⟩ : ∃ k : Nat, Hid (k = 0) := ⟨0, rfl⟩
    obtain ⟨sz, HS0⟩ : ∃ k : Nat, Hid (k = 64) := ⟨64, rfl⟩
    have HB : Hid (IsByte l) := by rw [HL.out]; intro c hc; simp at hc
    have HKK : Hid (l.length / 64 = k) := by rw [HL.out, HK0.out]; rfl
    have HSZ : Hid ((padN l).length = 64 * k + sz) := by rw [HL.out, HK0.out, HS0.out]; rfl
    have HSM : Hid (sz % 64 = 0) := by rw [HS0.out]; rfl
    have hsz2 : sz ≤ 128 := by have := HS0.out; omega
    have HX : Hid (k + sz / 64 = (padN l).length / 64) := by rw [HL.out, HK0.out, HS0.out]; rfl
    rw [← HL.out] at HX0
    have HLT : Hid (w.heap.size + 1 < wr.heap.size) := HD.out.row.lt
    have HP0 : Hid (Calls Tryz.prog 101 #[.slice a 0 cap, .int .i64 0] wr fun e w' => e = .returned (.slice (some ⟨wr.heap.size, 0, none⟩) sz sz) ∧ Pad wr w' (l.drop (64 * k)) l.length sz 8) := by
      rw [HL.out, HK0.out, HS0.out]
      exact pad64 a cap [] 0 wr (by simp) (by omega) (by intro c hc; simp at hc) (.inl rfl)
    have HDk : Hid (Dg w wr (comp (padN l) k)) := by rw [HK0.out]; exact HD.out
    clear HD
    rcases a with _ | ad
    · go_wp2_with fail
      (with_reducible refine HP0.out.mono ?_)
      clear HP0
      rintro e w6 ⟨rfl, hpd⟩
      have HRT := Lib.hid hpd.row
      have HD6 : Hid (Dg w w6 (comp (padN l) k)) := ⟨HDk.out.below.trans (hpd.below.mono HDk.out.below.size), HDk.out.out.below hpd.below HDk.out.out.lt, HDk.out.row.below hpd.below HDk.out.row.lt⟩
      clear hpd HDk
      generalize wr.heap.size = B at *
      go_wp2_with fail
      go_loopw [7] (fun i wq => ∃ j t : Nat, Hid (t = 64 * j) ∧ t ≤ sz ∧ i = .int .i64 (t : Int) ∧ Hid (Dg w wq (comp (padN l) (k + j))) ∧ Hid (Row wq B 5 sz sz (tlV (l.drop (64 * k)) l.length sz 8))) (fun i _ => sz - (intOf i).toNat)
      case atStart => exact ⟨0, 0, rfl, by omega, rfl, HD6, HRT⟩
      case round =>
        obtain ⟨j, t, HT2, ht2, rfl, HDq, HRq⟩ := hrel
        by_cases hlt3 : t < sz
        · have ht64 : t + 64 ≤ sz := by have := HT2.out; have := HSM.out; omega
          have hrow := HDq.out.row
          have hok := comp_ok (padN l) (k + j)
          have hnx : mixN (comp (padN l) (k + j)) (fun i => (padN l).getD (64 * k + t + i) 0) = comp (padN l) (k + (j + 1)) := by
            rw [HT2.out, show 64 * k + 64 * j = 64 * (k + j) by omega]; rfl
          have HNX := Lib.hid hnx
          clear hnx
          generalize comp (padN l) (k + j) = x at *
          have q0 : wr.cell? ⟨w.heap.size + 1, 0, none⟩ = some (.int .u32 (x.p : Int)) := hrow.cell 0 (by omega)
          have q1 : wr.cell? ⟨w.heap.size + 1, 1, none⟩ = some (.int .u32 (x.q : Int)) := hrow.cell 1 (by omega)
          have q2 : wr.cell? ⟨w.heap.size + 1, 2, none⟩ = some (.int .u32 (x.r : Int)) := hrow.cell 2 (by omega)
          have q3 : wr.cell? ⟨w.heap.size + 1, 3, none⟩ = some (.int .u32 (x.s : Int)) := hrow.cell 3 (by omega)
          have q4 : wr.cell? ⟨w.heap.size + 1, 4, none⟩ = some (.int .u32 (x.t : Int)) := hrow.cell 4 (by omega)
          have q5 : wr.cell? ⟨w.heap.size + 1, 5, none⟩ = some (.int .u32 (x.u : Int)) := hrow.cell 5 (by omega)
          have q6 : wr.cell? ⟨w.heap.size + 1, 6, none⟩ = some (.int .u32 (x.v : Int)) := hrow.cell 6 (by omega)
          have q7 : wr.cell? ⟨w.heap.size + 1, 7, none⟩ = some (.int .u32 (x.w : Int)) := hrow.cell 7 (by omega)
          have HM : Hid (Calls Tryz.prog 100 #[.agg #[.int .u32 (x.p : Int), .int .u32 (x.q : Int), .int .u32 (x.r : Int), .int .u32 (x.s : Int), .int .u32 (x.t : Int), .int .u32 (x.u : Int), .int .u32 (x.v : Int), .int .u32 (x.w : Int)], .slice (some ⟨B, t, none⟩) 64 (sz - t)] wr.drew
            fun e w' => e = .returned (.agg (rowArr 8 (stV (comp (padN l) (k + (j + 1)))))) ∧ Below wr.drew.heap.size wr.drew w') := by
              rw [← HNX.out]
              exact mix_at B t (sz - t) _ x hok wr.drew (getD_byte (padN_byte HB.out) (64 * k + t)) (block_of_tail (HRq.out.drew 1) HKK.out HSZ.out t ht64) (HK.out.below hlt HDq.out.below.drew)
          have s1 : IntKind.i64.wrap ((t : Int) + 64) = (t : Int) + 64 := IntWalk.i64_in _ (by omega)
          have s2 : ((t : Int) + 64).toNat = t + 64 := by omega
          have s3 : (0 : Int) ≤ (t : Int) + 64 := by omega
          have s4 : (t : Int) ≤ (t : Int) + 64 := by omega
          have s5 : (t : Int) + 64 ≤ (sz : Int) := by omega
          have s6 : ¬ sz = t := by omega
          have s7 : t + 64 - t = 64 := by omega
          have hd3 : decide ((t : Int) < (sz : Int)) = true := by simp; omega
          clear hrow
          go_wp2_with fail
          refine wp_region_still_tail 6 (by kernel_rfl) (by kernel_rfl) ?_
          simp only [List.take_succ_cons, List.take_zero, List.drop_succ_cons, List.drop_zero]
          repeat still_step
          refine wpStill_nil ?_
          change wpList _ _ _ _ _ wr.drew
          clear q0 q1 q2 q3 q4 q5 q6 q7 s1 s2 s3 s4 s5 s6 s7
          go_wp2_with (first | (go_at_call 100; (refine HM.out.mono ?_); rintro e w5 ⟨rfl, b5⟩; have HO5 : Hid (w5.heap[w.heap.size + 1]? = some (.cells (rowArr 8 (stV x)) 196 (0, 0))) := (HDq.out.drew 1).old b5; have HD5 : Hid (Dg w (w5.setRow (w.heap.size + 1) (rowArr 8 (stV (comp (padN l) (k + (j + 1)))))) (comp (padN l) (k + (j + 1)))) := (HDq.out.drew 1).next b5; have HR5 : Hid (Row (w5.setRow (w.heap.size + 1) (rowArr 8 (stV (comp (padN l) (k + (j + 1)))))) B 5 sz sz (tlV (l.drop (64 * k)) l.length sz 8)) := ((HRq.out.drew 1).below b5 (HRq.out.drew 1).lt).setRow_other (by have := HLT.out; omega) _; clear b5) | (refine wpList_store_row rfl 196 _ _ rfl (w.heap.size + 1) (rowArr 8 (stV (comp (padN l) (k + (j + 1))))) rfl rfl 196 _ HO5.out (by rw [rowArr_size]; kernel_rfl) (by rw [rowArr_size, rowArr_size]) (oneCell_st _) ?_))
          go_roundw
          case rel => exact ⟨j + 1, t + 64, by have := HT2.out; show _ = _; omega, by omega, by go_num, HD5, HR5⟩
          case measure => simp [intOf]; omega
        · have hts : t = sz := by omega
          subst hts
          have hkj : k + j = (padN l).length / 64 := by have := HX.out; have := HT2.out; omega
          rw [hkj, HX0.out] at HDq
          have hok : x0.Ok := by rw [← HX0.out]; exact comp_ok (padN l) ((padN l).length / 64)
          have HWH := Lib.hid HDq.out.row.whole
          have HSP := Lib.hid (spell_any x0 hok wr)
          have HKJ := Lib.hid hkj
          clear hkj
          go_wp2_with (first | (refine wpList_load_row rfl 196 _ rfl (w.heap.size + 1) rfl 196 (rowArr 8 (stV x0)) (0, 0) _ HWH.out Tryz.underlying196 rfl (by rw [rowArr_size]; kernel_rfl) ?_) | (go_at_call 102; (refine HSP.out.mono ?_); rintro e w7 ⟨rfl, b7⟩; obtain ⟨old, ho1, ho2, _⟩ := HDq.out.out.below b7 HDq.out.out.lt; have HO := Lib.hid ho1; have HO2 := Lib.hid ho2; have HB7 : Hid (Below w.heap.size w w7) := HDq.out.below.trans (b7.mono HDq.out.below.size); clear b7 ho1 ho2) | (refine wpList_store_row rfl 50 _ _ rfl w.heap.size (rowArr 32 (spV x0)) rfl rfl 50 _ HO.out (by rw [rowArr_size]; kernel_rfl) (by rw [rowArr_size]; exact HO2.out) (oneCell_sp x0 32) ?_))
          exact bodyPost_ret (v := .agg (rowArr 32 (spV x0))) (results_cell_row rfl _ _ w.heap.size 50 (rowArr 32 (spV x0)) (0, 0) _ rfl (setRow_heap _ _ _ _ _ _ HO.out) Tryz.underlying50 rfl (by rw [rowArr_size]; kernel_rfl)) rfl ⟨rfl, Go.Proofs.YtfgaohilpbocbaaGreatDoor.Sha.below_setRow HB7.out (Nat.le_refl _) _⟩
    · go_wp2_with fail
      (with_reducible refine HP0.out.mono ?_)
      clear HP0
      rintro e w6 ⟨rfl, hpd⟩
      have HRT := Lib.hid hpd.row
      have HD6 : Hid (Dg w w6 (comp (padN l) k)) := ⟨HDk.out.below.trans (hpd.below.mono HDk.out.below.size), HDk.out.out.below hpd.below HDk.out.out.lt, HDk.out.row.below hpd.below HDk.out.row.lt⟩
      clear hpd HDk
      generalize wr.heap.size = B at *
      go_wp2_with fail
      go_loopw [7] (fun i wq => ∃ j t : Nat, Hid (t = 64 * j) ∧ t ≤ sz ∧ i = .int .i64 (t : Int) ∧ Hid (Dg w wq (comp (padN l) (k + j))) ∧ Hid (Row wq B 5 sz sz (tlV (l.drop (64 * k)) l.length sz 8))) (fun i _ => sz - (intOf i).toNat)
      case atStart => exact ⟨0, 0, rfl, by omega, rfl, HD6, HRT⟩
      case round =>
        obtain ⟨j, t, HT2, ht2, rfl, HDq, HRq⟩ := hrel
        by_cases hlt3 : t < sz
        · have ht64 : t + 64 ≤ sz := by have := HT2.out; have := HSM.out; omega
          have hrow := HDq.out.row
          have hok := comp_ok (padN l) (k + j)
          have hnx : mixN (comp (padN l) (k + j)) (fun i => (padN l).getD (64 * k + t + i) 0) = comp (padN l) (k + (j + 1)) := by
            rw [HT2.out, show 64 * k + 64 * j = 64 * (k + j) by omega]; rfl
          have HNX := Lib.hid hnx
          clear hnx
          generalize comp (padN l) (k + j) = x at *
          have q0 : wr.cell? ⟨w.heap.size + 1, 0, none⟩ = some (.int .u32 (x.p : Int)) := hrow.cell 0 (by omega)
          have q1 : wr.cell? ⟨w.heap.size + 1, 1, none⟩ = some (.int .u32 (x.q : Int)) := hrow.cell 1 (by omega)
          have q2 : wr.cell? ⟨w.heap.size + 1, 2, none⟩ = some (.int .u32 (x.r : Int)) := hrow.cell 2 (by omega)
          have q3 : wr.cell? ⟨w.heap.size + 1, 3, none⟩ = some (.int .u32 (x.s : Int)) := hrow.cell 3 (by omega)
          have q4 : wr.cell? ⟨w.heap.size + 1, 4, none⟩ = some (.int .u32 (x.t : Int)) := hrow.cell 4 (by omega)
          have q5 : wr.cell? ⟨w.heap.size + 1, 5, none⟩ = some (.int .u32 (x.u : Int)) := hrow.cell 5 (by omega)
          have q6 : wr.cell? ⟨w.heap.size + 1, 6, none⟩ = some (.int .u32 (x.v : Int)) := hrow.cell 6 (by omega)
          have q7 : wr.cell? ⟨w.heap.size + 1, 7, none⟩ = some (.int .u32 (x.w : Int)) := hrow.cell 7 (by omega)
          have HM : Hid (Calls Tryz.prog 100 #[.agg #[.int .u32 (x.p : Int), .int .u32 (x.q : Int), .int .u32 (x.r : Int), .int .u32 (x.s : Int), .int .u32 (x.t : Int), .int .u32 (x.u : Int), .int .u32 (x.v : Int), .int .u32 (x.w : Int)], .slice (some ⟨B, t, none⟩) 64 (sz - t)] wr.drew
            fun e w' => e = .returned (.agg (rowArr 8 (stV (comp (padN l) (k + (j + 1)))))) ∧ Below wr.drew.heap.size wr.drew w') := by
              rw [← HNX.out]
              exact mix_at B t (sz - t) _ x hok wr.drew (getD_byte (padN_byte HB.out) (64 * k + t)) (block_of_tail (HRq.out.drew 1) HKK.out HSZ.out t ht64) (HK.out.below hlt HDq.out.below.drew)
          have s1 : IntKind.i64.wrap ((t : Int) + 64) = (t : Int) + 64 := IntWalk.i64_in _ (by omega)
          have s2 : ((t : Int) + 64).toNat = t + 64 := by omega
          have s3 : (0 : Int) ≤ (t : Int) + 64 := by omega
          have s4 : (t : Int) ≤ (t : Int) + 64 := by omega
          have s5 : (t : Int) + 64 ≤ (sz : Int) := by omega
          have s6 : ¬ sz = t := by omega
          have s7 : t + 64 - t = 64 := by omega
          have hd3 : decide ((t : Int) < (sz : Int)) = true := by simp; omega
          clear hrow
          go_wp2_with fail
          refine wp_region_still_tail 6 (by kernel_rfl) (by kernel_rfl) ?_
          simp only [List.take_succ_cons, List.take_zero, List.drop_succ_cons, List.drop_zero]
          repeat still_step
          refine wpStill_nil ?_
          change wpList _ _ _ _ _ wr.drew
          clear q0 q1 q2 q3 q4 q5 q6 q7 s1 s2 s3 s4 s5 s6 s7
          go_wp2_with (first | (go_at_call 100; (refine HM.out.mono ?_); rintro e w5 ⟨rfl, b5⟩; have HO5 : Hid (w5.heap[w.heap.size + 1]? = some (.cells (rowArr 8 (stV x)) 196 (0, 0))) := (HDq.out.drew 1).old b5; have HD5 : Hid (Dg w (w5.setRow (w.heap.size + 1) (rowArr 8 (stV (comp (padN l) (k + (j + 1)))))) (comp (padN l) (k + (j + 1)))) := (HDq.out.drew 1).next b5; have HR5 : Hid (Row (w5.setRow (w.heap.size + 1) (rowArr 8 (stV (comp (padN l) (k + (j + 1)))))) B 5 sz sz (tlV (l.drop (64 * k)) l.length sz 8)) := ((HRq.out.drew 1).below b5 (HRq.out.drew 1).lt).setRow_other (by have := HLT.out; omega) _; clear b5) | (refine wpList_store_row rfl 196 _ _ rfl (w.heap.size + 1) (rowArr 8 (stV (comp (padN l) (k + (j + 1))))) rfl rfl 196 _ HO5.out (by rw [rowArr_size]; kernel_rfl) (by rw [rowArr_size, rowArr_size]) (oneCell_st _) ?_))
          go_roundw
          case rel => exact ⟨j + 1, t + 64, by have := HT2.out; show _ = _; omega, by omega, by go_num, HD5, HR5⟩
          case measure => simp [intOf]; omega
        · have hts : t = sz := by omega
          subst hts
          have hkj : k + j = (padN l).length / 64 := by have := HX.out; have := HT2.out; omega
          rw [hkj, HX0.out] at HDq
          have hok : x0.Ok := by rw [← HX0.out]; exact comp_ok (padN l) ((padN l).length / 64)
          have HWH := Lib.hid HDq.out.row.whole
          have HSP := Lib.hid (spell_any x0 hok wr)
          have HKJ := Lib.hid hkj
          clear hkj
          go_wp2_with (first | (refine wpList_load_row rfl 196 _ rfl (w.heap.size + 1) rfl 196 (rowArr 8 (stV x0)) (0, 0) _ HWH.out Tryz.underlying196 rfl (by rw [rowArr_size]; kernel_rfl) ?_) | (go_at_call 102; (refine HSP.out.mono ?_); rintro e w7 ⟨rfl, b7⟩; obtain ⟨old, ho1, ho2, _⟩ := HDq.out.out.below b7 HDq.out.out.lt; have HO := Lib.hid ho1; have HO2 := Lib.hid ho2; have HB7 : Hid (Below w.heap.size w w7) := HDq.out.below.trans (b7.mono HDq.out.below.size); clear b7 ho1 ho2) | (refine wpList_store_row rfl 50 _ _ rfl w.heap.size (rowArr 32 (spV x0)) rfl rfl 50 _ HO.out (by rw [rowArr_size]; kernel_rfl) (by rw [rowArr_size]; exact HO2.out) (oneCell_sp x0 32) ?_))
          exact bodyPost_ret (v := .agg (rowArr 32 (spV x0))) (results_cell_row rfl _ _ w.heap.size 50 (rowArr 32 (spV x0)) (0, 0) _ rfl (setRow_heap _ _ _ _ _ _ HO.out) Tryz.underlying50 rfl (by rw [rowArr_size]; kernel_rfl)) rfl ⟨rfl, Go.Proofs.YtfgaohilpbocbaaGreatDoor.Sha.below_setRow HB7.out (Nat.le_refl _) _⟩

theorem digest_any (a : Option Addr) (cap : Nat) (l : List Nat) (w : World) (hl : l.length ≤ 1000000) (hlc : l.length ≤ cap) (hcm : cap ≤ maxLen) (hb : IsByte l) (hc : BytesAt w a l) (hK : Ks w) (hS : Starts w) :
    Calls Tryz.prog 57 #[.slice a l.length cap] w fun e w' => e = .returned (.agg (rowArr 32 (spV (comp (padN l) ((padN l).length / 64))))) ∧ Below w.heap.size w w' := by
  rcases hc with rfl | ⟨b, off, rfl, hc⟩
  · exact digest_void a cap _ rfl w hcm hK hS
  · exact digest_some b off cap l w hl hlc hcm hb hc hK hS

end Go.Proofs.YtfgaohilpbocbaaGreatDoor.Sha
end

section
namespace Go.Proofs.YtfgaohilpbocbaaGreatDoor.Sha
open Go.ChangeShapes Go.WideShapes Go.ChangeAt Go.RowKit
set_option linter.unusedVariables false

theorem turned_any (x n : Nat) (m : Int) (hm : m = (n : Int)) (hx : x < 4294967296) (h1 : 1 ≤ n) (h2 : n ≤ 31) (w : World) :
    Calls Tryz.prog 79 #[.int .u64 (x : Int), .int .u64 m] w fun e w' => e = .returned (.int .u64 ((rotr x n : Nat) : Int)) ∧ w = w' := by
  subst hm
  have hp : 2 ^ (32 - n) ≤ 2147483648 := by have := Nat.pow_le_pow_right (show 0 < 2 by omega) (show 32 - n ≤ 31 by omega); simpa using this
  have hmul : x * 2 ^ (32 - n) < 18446744073709551616 := by
    have := Nat.mul_le_mul (Nat.le_of_lt hx) hp
    omega
  have hd : x / 2 ^ n < 4294967296 := Nat.lt_of_le_of_lt (Nat.div_le_self _ _) hx
  have e1 : bits .and .u64 (bits .or .u64 ((x : Int) / 2 ^ n) (IntKind.u64.wrap ((x : Int) * 2 ^ (32 - n)))) 4294967295 = ((rotr x n : Nat) : Int) := by
    have a1 : ((x : Int) / 2 ^ n) = ((x / 2 ^ n : Nat) : Int) := by simp
    have a2 : IntKind.u64.wrap ((x : Int) * 2 ^ (32 - n)) = ((x * 2 ^ (32 - n) : Nat) : Int) := by
      rw [IntKind.wrap_u64]
      have : ((x : Int) * 2 ^ (32 - n)) = ((x * 2 ^ (32 - n) : Nat) : Int) := by simp
      rw [this]; omega
    rw [a1, a2, u64_or_nat _ _ (by omega) hmul]
    have hor : x / 2 ^ n ||| x * 2 ^ (32 - n) < 18446744073709551616 := by
      have : x / 2 ^ n ||| x * 2 ^ (32 - n) < 2 ^ 64 := Nat.or_lt_two_pow (by omega) (by omega)
      simpa using this
    have := u64_and_nat (x / 2 ^ n ||| x * 2 ^ (32 - n)) 4294967295 hor (by omega)
    rw [nat_mask32, rotr_wide x n hx (by omega)] at this
    exact this
  have E1 := Lib.hid e1
  clear e1 hp hmul hd
  go_enter Tryz.func79, Tryz.ntmps79
  go_wp2
  go_ret
  exact ⟨congrArg (fun z => Ending.returned (.int .u64 z)) E1.out, rfl⟩

/-- The number of some bytes. -/
def numN (l : List Nat) : Nat := l.foldl (fun v c => v * 256 + c) 0

theorem numN_snoc (l : List Nat) (k : Nat) (h : k < l.length) : numN (l.take (k + 1)) = numN (l.take k) * 256 + l[k] := by
  unfold numN
  rw [List.take_succ_eq_append_getElem h, List.foldl_append]
  rfl

theorem numN_lt (l : List Nat) (hb : IsByte l) : ∀ k, k ≤ l.length → numN (l.take k) < 256 ^ k := by
  intro k
  induction k with
  | zero => intro _; simp [numN]
  | succ k ih =>
    intro hk
    have h1 := ih (by omega)
    have h2 := hb l[k] (List.getElem_mem (by omega))
    rw [numN_snoc l k (by omega), Nat.pow_succ]
    omega

set_option maxHeartbeats 400000 in
theorem number_any (b off cap : Nat) (l : List Nat) (hl : l.length ≤ 4) (w : World) (hb : IsByte l) (hc : BytesIn w b off l) :
    Calls Tryz.prog 78 #[.slice (some ⟨b, off, none⟩) l.length cap] w fun e w' => e = .returned (.int .u64 ((numN l : Nat) : Int)) ∧ w = w' := by
  have HC := Lib.hid hc
  have HB := Lib.hid hb
  clear hc hb
  go_enter Tryz.func78, Tryz.ntmps78
  go_wp2
  go_loop [3, 7] (fun s i => ∃ k t : Nat, k ≤ l.length ∧ Hid (t = numN (l.take k)) ∧ t < 4294967296 ∧ i = .int .i64 k ∧ s = .int .u64 t) (fun _ i => l.length - (intOf i).toNat)
  case atStart => exact ⟨0, 0, by omega, rfl, by omega, rfl, rfl⟩
  case round =>
    obtain ⟨k, t, hk, HT, htl, rfl, rfl⟩ := hrel
    by_cases hlt : k < l.length
    · have c0 := HC.out k hlt
      have y0 : l[k] < 256 := HB.out _ (List.getElem_mem hlt)
      have HS := Lib.hid (numN_snoc l k hlt)
      have hN : numN (l.take (k + 1)) < 4294967296 := by
        have := numN_lt l HB.out (k + 1) (by omega)
        have h2 : 256 ^ (k + 1) ≤ 256 ^ 4 := Nat.pow_le_pow_right (by omega) (by omega)
        omega
      have hN2 : t * 256 + l[k] < 4294967296 := by rw [HT.out, ← HS.out]; exact hN
      clear hN
      generalize l[k] = c at *
      go_wp2
      go_round
      case rel => exact ⟨k + 1, t * 256 + c, by omega, by rw [HS.out, ← HT.out]; exact rfl, hN2, by go_num, by congr 1⟩
      case measure => simp [intOf]; omega
    · have HE : Hid (numN l = t) := by
        have := HT.out
        rw [List.take_of_length_le (by omega)] at this
        exact this.symm
      go_wp2
      go_ret
      exact ⟨by rw [HE.out]; rfl, rfl⟩

def wideN (v i : Nat) : Nat := v / 256 ^ (7 - i) % 256
def wideV (v i : Nat) : Value := .int .u8 ((wideN v i : Nat) : Int)

/-- Eight bytes, filled from the last on. -/
def Wd (W wr : World) (v j : Nat) : Prop := Below W.heap.size W wr ∧ Row wr W.heap.size 5 8 8 (fun i => if 8 - j ≤ i then wideV v i else zV i)

theorem Wd.set {W wr : World} {v j : Nat} (h : Wd W wr v j) (hj : j < 8) {u : Value} (hu : u = wideV v (7 - j)) : Wd W (wr.setCell ⟨W.heap.size, 7 - j, none⟩ u) v (j + 1) :=
  ⟨h.1.setCell (Nat.le_refl _) _, (h.2.upd (7 - j) (by omega) u).mono (Nat.le_refl _) fun i hi => by
    by_cases e : i = 7 - j
    · subst e
      simp only [if_true, hu]
      rw [if_pos (by omega)]
    · simp only [e, if_false]
      by_cases h2 : 8 - j ≤ i
      · rw [if_pos h2, if_pos (by omega)]
      · rw [if_neg h2, if_neg (by omega)]⟩

set_option maxHeartbeats 400000 in
theorem wide_any (v : Nat) (hv : v < 18446744073709551616) (w : World) :
    Calls Tryz.prog 77 #[.int .u64 (v : Int), .int .i64 8] w fun e w' => e = .returned (.slice (some ⟨w.heap.size, 0, none⟩) 8 8) ∧ Wd w w' v 8 := by
  have hmk : ∀ w : World, (Instr.makeSlice 53 (.int .i64 8) (.int .i64 8)).run Tryz.prog w = .ok (.slice (some ⟨w.heap.size, 0, none⟩) 8 8) (w.alloc (.cells (rowArr 8 zV) 5)) := fun w => make_row 8 (by omega) w
  have HW : Hid (Wd w (w.alloc (.cells (rowArr 8 zV) 5)) v 0) := ⟨(Below.refl _ _).alloc (Nat.le_refl _) _, (Row.new_whole w _ _ zV _ _ rfl rfl).mono (Nat.le_refl _) fun i hi => by simp only [show ¬ (8 - 0 ≤ i) by omega, if_false]⟩
  go_enter Tryz.func77, Tryz.ntmps77
  go_wp2_with fail
  clear hmk
  go_loopw [0, 6] (fun u i wr => ∃ j t : Nat, j ≤ 8 ∧ Hid (t = v / 256 ^ j) ∧ t < 18446744073709551616 ∧ u = .int .u64 (t : Int) ∧ i = .int .i64 (7 - (j : Int)) ∧ Hid (Wd w wr v j)) (fun _ i _ => (intOf i + 1).toNat)
  case atStart => exact ⟨0, v, by omega, by simp [Hid], hv, rfl, rfl, HW⟩
  case round =>
    obtain ⟨j, t, hj, HT, htl, rfl, rfl, HJ⟩ := hrel
    by_cases hlt : j < 8
    · have hlo := HJ.out.2.loose (7 - j)
      obtain ⟨vk, hck⟩ := HJ.out.2.has (7 - j) (by omega)
      have HS : Hid (Wd w (wr.setCell ⟨w.heap.size, 7 - j, none⟩ (.int .u8 ((t : Int) % 256))) v (j + 1)) := HJ.out.set hlt (by unfold wideV wideN; rw [HT.out, show 7 - (7 - j) = j by omega]; simp)
      have HT2 : Hid (t / 256 = v / 256 ^ (j + 1)) := by rw [HT.out, Nat.pow_succ, Nat.div_div_eq_div_mul]; exact rfl
      go_wp2_with fail
      go_roundw
      case rel => exact ⟨j + 1, t / 256, by omega, HT2, by omega, by simp, by congr 1; simp; omega, HS⟩
      case measure => simp [intOf]; omega
    · have hj8 : j = 8 := by omega
      subst hj8
      go_wp2_with fail
      go_ret
      exact ⟨rfl, HJ.out⟩

def byteV (c : Nat) : Value := .int .u8 (c : Int)

/-- A slice of the call's own: its bytes. -/
def Own (w : World) (base : Nat) (v : Value) (l : List Nat) : Prop := w.ownsRow base 5 1 v l.length (l.map byteV)

theorem ownBlock_ge {w : World} {base size n : Nat} {e : TypeId} {v : Value} {xs : List Value} (h : w.ownsRow base e size v n xs) : ∀ k, v.ownBlock = some k → base ≤ k := by
  intro k hk
  rcases h.2 with ⟨rfl, _⟩ | ⟨g, cap, cur, rfl, hg, _⟩
  · simp [Value.ownBlock] at hk
  · simp [Value.ownBlock] at hk
    omega

theorem wp_append {w : World} {ops : Array Oper} {rest : List Oper} {o : Oper} {a : Act} {Q : Exit → Act → World → Prop} (hgd : o.guard = none) (s x : Operand)
    (ho : o.op = .call { callee := .builtin .append, args := #[s, x], argTypes := #[53, 53] }) (base : Nat) (v : Value) (l news : List Nat) (hs : a.eval s = v) (hown : Own w base v l)
    (ad : Addr) (n c : Nat) (hn : news.length = n) (hx : a.eval x = .slice (some ad) n c) (hc : ∀ j (h : j < news.length), w.cell? (ad.add j) = some (byteV news[j]))
    (hlen : l.length + news.length ≤ 2000000) (hbase : base ≤ w.heap.size) (w0 : World) (hb : Below base w0 w)
    (h : ∀ v' w', Hid (Own w' base v' (l ++ news)) → Hid (Below base w0 w') → wpList Tryz.prog ops Q rest (a.put o.dst v') w') : wpList Tryz.prog ops Q (o :: rest) a w := by
  subst hn
  obtain ⟨i0, hi, hz0, hz1, hz2⟩ := info_parts info5
  refine wpList_append_own _ hgd s x 53 ho base 5 i0 (.int .u8 0) 1 1 Tryz.underlying53 hi hz0 hz1 hz2 rfl (by decide) v l.length (l.map byteV) hs hown ad news.length c (news.map byteV) hx (by simp) (fun j u hu => ?_) (fun u hu => ?_) (by unfold maxLen; omega) (by omega) hbase (fun v' w' h1 h2 _ => h v' w' ?_ ?_)
  · have hj : j < news.length := by
      rcases Nat.lt_or_ge j news.length with h | h
      · exact h
      · simp [List.getElem?_eq_none h] at hu
    have e : u = byteV news[j] := by simpa [hj] using hu.symm
    rw [e]; exact hc j hj
  · obtain ⟨c, _, rfl⟩ := List.mem_map.1 hu
    rfl
  · show w'.ownsRow base 5 1 v' (l ++ news).length ((l ++ news).map byteV)
    rw [List.length_append, List.map_append]; exact h1
  · exact hb.grown h2 hbase (ownBlock_ge hown)

theorem Own.below {w w' : World} {base B : Nat} {v : Value} {l : List Nat} (h : Own w base v l) (hb : Below B w w') (hB : w.heap.size ≤ B) : Own w' base v l := by
  refine ⟨h.1, ?_⟩
  rcases h.2 with h2 | ⟨g, cap, cur, h1, h2, h3, h4⟩
  · exact .inl h2
  · exact .inr ⟨g, cap, cur, h1, h2, by rw [hb.block g (Nat.lt_of_lt_of_le (Array.getElem?_eq_some_iff.1 h3).1 hB)]; exact h3, h4⟩

theorem Own.bytes {w : World} {base : Nat} {v : Value} {l : List Nat} (h : Own w base v l) (hl : l ≠ []) : ∃ g cap, v = .slice (some ⟨g, 0, none⟩) l.length cap ∧ base ≤ g ∧ l.length ≤ cap ∧ cap ≤ maxLen ∧ BytesIn w g 0 l ∧ g < w.heap.size := by
  rcases h.2 with ⟨_, h2⟩ | ⟨g, cap, cur, h1, h2, h3, h4, h5, h6, h7⟩
  · exact absurd (List.length_eq_zero_iff.1 h2) hl
  · refine ⟨g, cap, h1, h2, h4, h5, fun i hi => ?_, (Array.getElem?_eq_some_iff.1 h3).1⟩
    rw [Nat.zero_add, Joins.cell_of_block h3]
    have : (cur.toList.take (l.length * 1))[i]? = (l.map byteV)[i]? := by rw [h7]
    rw [Nat.mul_one, List.getElem?_take_of_lt hi] at this
    rw [← Array.getElem?_toList, this]
    simp [hi, byteV]

end Go.Proofs.YtfgaohilpbocbaaGreatDoor.Sha
end
