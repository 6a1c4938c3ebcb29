/-
  Package cut's fault: what is wrong with files, as the document says.
  slices.Chunk over bytes: what it hands its loop's body.
  A map from a packet's kind and index: its look-ups, its entries.
  Package packet's Join: what it is to gather, plainly; the set that is being gathered, in memory.
  What package cut's Make has in memory: a set that is being made, and a slice of slices beside it; what a step keeps.
  Files and what is known of slices, built: one of each, and rows of one.
-/
import Derived.Test.YtechekkojinkmaaDoorMq20
import Derived.RangeFuncNested
import Derived.RangeFuncBound
import Derived.RangeFuncCalls
import Derived.RangeFuncLeaves
import Derived.Shelf.Abstract
import Derived.Shelf.RegionOpen
import Derived.WalkKit
import Derived.OwnWalkIn
import Derived.TacticsInMore
import Derived.LoopNIn
import Derived.LoopIn
import Derived.DeepKeys3
import Derived.WideKeyMaps2
import Derived.RangeFuncBox
section
namespace Go.Proofs.YtechekkojinkmaaDoor
open Go.ChangeShapes Go.WideShapes Go.ChangeAt Go.RowKit Go.Joins
set_option linter.unusedVariables false

theorem elemInp : Tryd.prog.elem 50 = 62 := by kernel_rfl
theorem undInps : Tryd.prog.underlying 50 = some (.slice (Tryd.prog.elem 50)) := by rw [elemInp]; exact Tryd.underlying50
theorem sizeInp (w : World) : (sizeOf 62).run Tryd.prog w = .ok 2 w := by kernel_rfl
/-- l[:k] of files. -/
theorem inps_front (a : Option Addr) (n cap k : Nat) (hk : k ≤ cap) : ∀ W, (Instr.slice 50 (.slice a n cap) none (some (.int .i64 (k : Int))) none).run Tryd.prog W = .ok (.slice a k cap) W := fun W => by
  rw [run_slice_h W 50 a n cap undInps .i64 _ (by omega) (by omega), elemInp, sizeInp]
  cases a with
  | none => simp [Result.andThen, sliced]
  | some p => simp [Result.andThen, sliced, Addr.add]
set_option maxRecDepth 1000000 in
set_option maxHeartbeats 8000000 in
theorem fault_any (a : Option Addr) (cap : Nat) (L : List Inp) (s : Int) (w : World) (hs : Inps w a cap L) (hf : FewI L) (hz : i64R s) (hm : Mx w) :
    Calls Tryd.prog 41 #[.slice a L.length cap, .int .i64 s] w fun e w' => (∃ c, e = .returned (.int .i64 c) ∧ CodeIs L s c) ∧ Below w.heap.size w w' := by
  have mixed : Tryd.prog.follows .mixedOrders = true := by kernel_rfl
  have HS := Lib.hid hs
  have HF := Lib.hid hf
  have HM := Lib.hid hm
  have hll := hf.len
  have hlc := hs.len
  have hcm : cap ≤ 9223372036854775807 := by have := hs.most; unfold maxLen at this; omega
  obtain ⟨hz1, hz2⟩ := hz
  obtain ⟨PQ, hPQ⟩ : ∃ PQ : Ending → World → Prop, PQ = fun e w' => (∃ c, e = .returned (.int .i64 c) ∧ CodeIs L s c) ∧ Below w.heap.size w w' := ⟨_, rfl⟩
  have HR : Hid (∀ c w', CodeIs L s c → Below w.heap.size w w' → PQ (.returned (.int .i64 c)) w') := by
    show ∀ _ _, _
    rw [hPQ]; exact fun c w' h1 h2 => ⟨⟨c, rfl, h1⟩, h2⟩
  rw [← hPQ]
  clear hPQ hs hf hm
  by_cases h1 : s < 1
  · have HC : Hid (CodeIs L s 1) := .inl ⟨.inl h1, rfl⟩
    have HRR := Lib.hid (HR.out 1 w HC.out (Below.refl _ _))
    go_enter Tryd.func41, Tryd.ntmps41
    go_wp2_with fail
    exact HRR.out
  by_cases h2 : 256 < s
  · have HC : Hid (CodeIs L s 1) := .inl ⟨.inr (.inl h2), rfl⟩
    have HRR := Lib.hid (HR.out 1 w HC.out (Below.refl _ _))
    go_enter Tryd.func41, Tryd.ntmps41
    go_wp2_with fail
    exact HRR.out
  by_cases h3 : L.length = 0
  · have HC : Hid (CodeIs L s 1) := .inl ⟨.inr (.inr h3), rfl⟩
    have HRR := Lib.hid (HR.out 1 w HC.out (Below.refl _ _))
    have h3z : (L.length : Int) = 0 := by omega
    have h3b : ((L.length : Int) == 0) = true := beq_iff_eq.2 h3z
    go_enter Tryd.func41, Tryd.ntmps41
    go_wp2_with fail
    exact HRR.out
  have h3b : ((L.length : Int) == 0) = false := beq_false_of_ne (by omega)
  have HNA : Hid (¬ BadArg L s) := fun h => by rcases h with h | h | h <;> omega
  by_cases h4 : 8 < L.length
  · have HC : Hid (CodeIs L s 5) := .inr ⟨HNA.out, .inl ⟨h4, rfl⟩⟩
    have HRR := Lib.hid (HR.out 5 w HC.out (Below.refl _ _))
    have d1 : decide ((8 : Int) < (L.length : Int)) = true := decide_eq_true (by omega)
    have d2 : decide (8 < L.length) = true := decide_eq_true h4
    go_enter Tryd.func41, Tryd.ntmps41
    go_wp2_with fail
    exact HRR.out
  have d1 : decide ((8 : Int) < (L.length : Int)) = false := decide_eq_false (by omega)
  have d2 : decide (8 < L.length) = false := decide_eq_false h4
  have H4 : Hid (¬ 8 < L.length) := h4
  have HB0 : Hid (Below w.heap.size w w) := Below.refl _ _
  have HN0 : Hid (∀ j, j < 0 → nameL (L.getD j zInp).name = true) := fun j h => by omega
  clear h3 h4
  go_enter Tryd.func41, Tryd.ntmps41
  go_wp2_with fail
  clear h3b d1 d2
  go_loopw [26] (fun i wr => ∃ k : Nat, k ≤ L.length ∧ i = .int .i64 k ∧ Hid (∀ j, j < k → nameL (L.getD j zInp).name = true) ∧ Hid (Below w.heap.size w wr)) (fun i _ => L.length - (intOf i).toNat)
  case atStart => exact ⟨0, by omega, rfl, HN0, HB0⟩
  case round =>
    obtain ⟨k, hk, rfl, HN, HB⟩ := hrel
    clear HN0 HB0
    by_cases hlt : k < L.length
    · obtain ⟨fb, off, rfl, hbl, hx⟩ := inps_one (HS.out.below HB.out) hlt
      obtain ⟨k0, k1⟩ := inp_cells hlt hx
      have hby := HS.out.byte _ (List.getElem_mem hlt)
      have hgd := getI hlt
      obtain ⟨f, hfe⟩ : ∃ f, f = L[k] := ⟨_, rfl⟩
      rw [← hfe] at k0 k1 hgd hby
      have hnz : (strOf f.name).size ≤ 9223372036854775807 := by rw [strOf_size]; omega
      have HP := Lib.hid (fun w (hm : Mx w) => right_path16 (strOf f.name) hnz w hm)
      obtain ⟨q, hq⟩ : ∃ q, q = nameB (strOf f.name).data.toList := ⟨_, rfl⟩
      rw [← hq] at HP
      have HQ : Hid (nameL (L.getD k zInp).name = q) := by show _ = _; rw [hgd, nameL_eq, ← hq]
      obtain ⟨A, hA⟩ : ∃ A, A = strOf f.name := ⟨_, rfl⟩
      rw [← hA] at k0 HP
      obtain ⟨n2, hn2⟩ : ∃ n2, n2 = f.b.length := ⟨_, rfl⟩
      rw [← hn2] at k1
      have HBA : Hid (Below wr.heap.size wr (wr.alloc (.cells #[.string A, .slice f.a n2 f.c] 62))) := (Below.refl _ _).alloc (Nat.le_refl _) _
      have HA0 : Hid ((wr.alloc (.cells #[.string A, .slice f.a n2 f.c] 62)).cell? ⟨wr.heap.size, 0, none⟩ = some (.string A)) := by show _ = _; rw [World.cell?_alloc_new]; rfl
      clear hx hby hgd hfe hnz hq hA hn2
      go_upto_region 8 with fail
      have HBX := Lib.hid (HB.out.trans (HBA.out.mono HB.out.size))
      have r0 := HA0.out
      have HPX := Lib.hid (HP.out _ (HM.out.below HBX.out))
      generalize wr.alloc (.cells #[.string A, .slice f.a n2 f.c] 62) = w7 at *
      clear HA0 HP HBA k0 k1
      cases q
      · have HC : Hid (CodeIs L s 12) := .inr ⟨HNA.out, .inr ⟨H4.out, .inl ⟨⟨k, hlt, HQ.out⟩, rfl⟩⟩⟩
        go_wp2_with (go_at_call 70; refine HPX.out.mono ?_; rintro e w2 ⟨rfl, hb2⟩; have HB2 := Lib.hid (HBX.out.trans (hb2.mono HBX.out.size)); clear hb2)
        exact HR.out 12 _ HC.out HB2.out
      · have HN2 : Hid (∀ j, j < k + 1 → nameL (L.getD j zInp).name = true) := fun j hj => by
          by_cases e : j = k
          · subst e; exact HQ.out
          · exact HN.out j (by omega)
        go_wp2_with (go_at_call 70; refine HPX.out.mono ?_; rintro e w2 ⟨rfl, hb2⟩; have HB2 := Lib.hid (HBX.out.trans (hb2.mono HBX.out.size)); clear hb2)
        go_roundw
        case rel => exact ⟨k + 1, by omega, by go_num, HN2, HB2⟩
        case measure => simp [intOf]; omega
    · obtain rfl : k = L.length := by omega
      have HNB : Hid (¬ BadName L) := fun ⟨j, hj, e⟩ => by rw [HN.out j hj] at e; cases e
      have HT0 : Hid (∀ j i, j < 0 → i < j → (L.getD i zInp).name ≠ (L.getD j zInp).name) := fun j i h => by omega
      clear HN hk hlt
      have HB1 := HB
      clear HB
      go_wp2_with fail
      go_loopw [7, 37] (fun n i wr => ∃ k N : Nat, k ≤ L.length ∧ i = .int .i64 k ∧ n = .int .i64 N ∧ N = cntOf L s k ∧ Hid (∀ j i, j < k → i < j → (L.getD i zInp).name ≠ (L.getD j zInp).name) ∧ Hid (Below w.heap.size w wr)) (fun _ i _ => L.length - (intOf i).toNat)
      case atStart => exact ⟨0, 0, by omega, rfl, rfl, rfl, HT0, HB1⟩
      case round =>
        obtain ⟨k, N, hk, rfl, rfl, hN, HT, HB⟩ := hrel
        clear HT0 HB1
        by_cases hlt : k < L.length
        · have hN3 : N ≤ 30000 := by rw [hN]; exact HF.out.cnt s (by omega)
          obtain ⟨fb, off, rfl, hbl, hx⟩ := inps_one (HS.out.below HB.out) hlt
          obtain ⟨k0, k1⟩ := inp_cells hlt hx
          have hby := HS.out.byte _ (List.getElem_mem hlt)
          have hgd := getI hlt
          have hone := HF.out.one hlt
          rw [hgd] at hone
          obtain ⟨f, hfe⟩ : ∃ f, f = L[k] := ⟨_, rfl⟩
          rw [← hfe] at k0 k1 hgd hby hone
          have hfl : f.b.length ≤ 30000 := hone.1
          have HCT := Lib.hid (fun (w : World) => cutCount_any (f.b.length : Int) s w ⟨by omega, by omega⟩ ⟨by omega, by omega⟩)
          have hcl := cntN_le (f.b.length : Int) s
          obtain ⟨c, hc⟩ : ∃ c, c = cntN (f.b.length : Int) s := ⟨_, rfl⟩
          rw [← hc] at HCT hcl
          have hcl2 : c ≤ 30000 := by omega
          have HNX : Hid (cntOf L s (k + 1) = N + c) := by
            show cntOf L s k + cntN (L.getD k zInp).b.length s = _
            rw [hgd, ← hc, hN]
          have HGD := Lib.hid hgd
          obtain ⟨A, hA⟩ : ∃ A, A = strOf f.name := ⟨_, rfl⟩
          obtain ⟨n2, hn2⟩ : ∃ n2, n2 = f.b.length := ⟨_, rfl⟩
          have HBA : Hid (Below wr.heap.size wr (wr.alloc (.cells #[.string A, .slice f.a n2 f.c] 62))) := (Below.refl _ _).alloc (Nat.le_refl _) _
          have hg0 : (wr.alloc (.cells #[.string A, .slice f.a n2 f.c] 62)).heap[wr.heap.size]? = some (.cells #[.string A, .slice f.a n2 f.c] 62 (0, 0)) := heap_alloc_last wr _
          rw [← hA] at k0
          rw [← hn2] at k1 HCT hfl
          have HAE := Lib.hid hA
          have hlen : (L.take k).length = k := by rw [List.length_take]; omega
          have hfr := inps_front (some ⟨fb, off, none⟩) L.length cap k (by omega)
          have HBYN := Lib.hid hby.1
          clear hx hby hgd hfe hone hcl hc hN hn2 hA
          go_upto_region 15 with fail
          obtain ⟨g, hg⟩ : ∃ g, g = wr.heap.size := ⟨_, rfl⟩
          have HBX := Lib.hid (HB.out.trans (HBA.out.mono HB.out.size))
          rw [← hg] at hg0 ⊢
          generalize wr.alloc (.cells #[.string A, .slice f.a n2 f.c] 62) = w7 at *
          clear HBA hg k0 k1
          have HG7 := Lib.hid hg0
          have r0 : w7.cell? ⟨g, 0, none⟩ = some (.string A) := by rw [cell_of_block hg0]; rfl
          have hgl : g < w7.heap.size := (Array.getElem?_eq_some_iff.1 hg0).1
          have kr0 := cell_regrown r0
          have hHas := fun d os => has_any16 (some ⟨fb, off, none⟩) cap (L.take k) f.name HBYN.out (Go.Sort.grow (redrawn w7 d) os) (((HS.out.below HBX.out).take k (by omega)).below (below_regrown w7 d os))
          rw [hlen, ← HAE.out] at hHas
          clear hg0
          by_cases p3 : ∃ j, j < k ∧ ((L.take k).getD j zInp).name = f.name
          · have CH := fun d os => Calls.regrown_of (v := .bool true) ((hHas d os).mono fun e w' ⟨⟨r, he, hr⟩, hb⟩ => ⟨by rw [he, hr.2 p3], hb⟩)
            have HC : Hid (CodeIs L s 8) := .inr ⟨HNA.out, .inr ⟨H4.out, .inr ⟨HNB.out, .inl ⟨by
              obtain ⟨j, hj, hje⟩ := p3
              refine ⟨k, j, hlt, hj, ?_⟩
              rw [HGD.out, ← hje]
              simp [List.getD, hj], rfl⟩⟩⟩⟩
            have HRR := Lib.hid (fun w' h => HR.out 8 w' HC.out h)
            clear hHas p3
            refine wp_region_quiet_below mixed (by kernel_rfl) ?_
            repeat (first | go_big_quiet_step (exact CH _ _) | quiet_step (exact CH _ _))
            refine wpQuiet_nil ?_
            intro _ hw'
            obtain ⟨⟨dq, osq⟩, hw''⟩ := hw'
            subst hw''
            have HBQ := Lib.hid (below_regrown w7 dq osq)
            go_wp2_with fail
            exact HRR.out _ (HBX.out.trans (HBQ.out.mono HBX.out.size))
          · have CH := fun d os => Calls.regrown_of (v := .bool false) ((hHas d os).mono fun e w' ⟨⟨r, he, hr⟩, hb⟩ => ⟨by rw [he, Bool.eq_false_iff.2 fun h => p3 (hr.1 h)], hb⟩)
            have HT2 : Hid (∀ j i, j < k + 1 → i < j → (L.getD i zInp).name ≠ (L.getD j zInp).name) := fun j i hj hi => by
              by_cases e : j = k
              · subst e
                intro he
                exact p3 ⟨i, hi, by rw [← HGD.out, ← he]; simp [List.getD, hi]⟩
              · exact HT.out j i (by omega) hi
            clear hHas p3
            refine wp_region_quiet_below mixed (by kernel_rfl) ?_
            repeat (first | go_big_quiet_step (exact CH _ _) | quiet_step (exact CH _ _))
            refine wpQuiet_nil ?_
            intro _ hw'
            obtain ⟨⟨dq, osq⟩, hw''⟩ := hw'
            subst hw''
            have HBQ := Lib.hid (below_regrown w7 dq osq)
            have r1 : (Go.Sort.grow (redrawn w7 dq) osq).cell? ⟨g, 1, none⟩ = some (.slice f.a n2 f.c) := by rw [cell_of_block ((HBQ.out.block g hgl).trans HG7.out)]; rfl
            generalize Go.Sort.grow (redrawn w7 dq) osq = w8 at *
            clear CH r0 kr0
            go_wp2_with (go_at_call 40; refine (HCT.out _).mono ?_; rintro e w' ⟨rfl, hw⟩; obtain rfl := hw)
            go_roundw
            case rel => exact ⟨k + 1, N + c, by omega, by go_num, by go_num, HNX.out.symm, HT2, HBX.out.trans (HBQ.out.mono HBX.out.size)⟩
            case measure => simp [intOf]; omega
        · obtain rfl : k = L.length := by omega
          have HNT : Hid (¬ Twice L) := fun ⟨j, i, hj, hi, e⟩ => HT.out j i hj hi e
          have hN3 : N ≤ 30000 := by rw [hN]; exact HF.out.cnt s (by omega)
          by_cases h5 : 64 < N
          · have d1 : decide ((64 : Int) < (N : Int)) = true := decide_eq_true (by omega)
            have d2 : decide (64 < N) = true := decide_eq_true h5
            have HC : Hid (CodeIs L s 5) := .inr ⟨HNA.out, .inr ⟨H4.out, .inr ⟨HNB.out, .inr ⟨HNT.out, .inl ⟨by rw [← hN]; exact h5, rfl⟩⟩⟩⟩⟩
            have HRR := Lib.hid (HR.out 5 _ HC.out HB.out)
            clear hN
            go_wp2_with fail
            exact HRR.out
          · have d1 : decide ((64 : Int) < (N : Int)) = false := decide_eq_false (by omega)
            have d2 : decide (64 < N) = false := decide_eq_false h5
            have HC : Hid (CodeIs L s 0) := .inr ⟨HNA.out, .inr ⟨H4.out, .inr ⟨HNB.out, .inr ⟨HNT.out, .inr ⟨by rw [← hN]; exact h5, rfl⟩⟩⟩⟩⟩
            have HRR := Lib.hid (HR.out 0 _ HC.out HB.out)
            clear hN
            go_wp2_with fail
            exact HRR.out
end Go.Proofs.YtechekkojinkmaaDoor
end

section
namespace Go.Proofs.YtechekkojinkmaaDoor
open Go.ChangeShapes Go.WideShapes Go.ChangeAt Go.RowKit Go.Joins Go.Shelf
set_option linter.unusedVariables false

attribute [local go_sem] Oper.semAt_some

/-- What the t-th round is handed. -/
def encC (g off : Nat) (b : List Nat) (s t : Nat) : Array Value := #[.slice (some ⟨g, off + t * s, none⟩) (chunkAt b s t).length (chunkAt b s t).length]
/-- What a round keeps that goes on: the two boxes. -/
def KeepC (bx bn : Nat) (W W' : World) : Prop := W.heap.size ≤ W'.heap.size ∧ W'.heap[bx]? = W.heap[bx]? ∧ W'.heap[bn]? = W.heap[bn]?
theorem KeepC.refl (bx bn : Nat) (W : World) : KeepC bx bn W W := ⟨Nat.le_refl _, rfl, rfl⟩
theorem KeepC.trans {bx bn : Nat} {A B C : World} (h : KeepC bx bn A B) (k : KeepC bx bn B C) : KeepC bx bn A C := ⟨Nat.le_trans h.1 k.1, k.2.1.trans h.2.1, k.2.2.trans h.2.2⟩
theorem elemBy : Tryd.prog.elem 36 = 5 := by kernel_rfl
theorem undBy : Tryd.prog.underlying 36 = some (.slice (Tryd.prog.elem 36)) := by rw [elemBy]; exact Tryd.underlying36
theorem sizeBy (w : World) : (sizeOf 5).run Tryd.prog w = .ok 1 w := by kernel_rfl
theorem grown_drew (W : World) : W.grownBy W.drew none := ⟨rfl, rfl, rfl, Nat.le_refl _, fun _ _ _ => rfl⟩
theorem bytes_from (a : Option Addr) (N c p : Nat) (hp : p ≤ N) (hN : N ≤ c) : ∃ A1, ∀ W, (Instr.slice 36 (.slice a N c) (some (.int .i64 (p : Int))) none none).run Tryd.prog W = .ok (.slice A1 (N - p) (c - p)) W := by
  refine ⟨if c = p then a else a.map (·.add (p * 1)), fun W => ?_⟩
  rw [run_slice_l W 36 a N c undBy .i64 _ (by omega) (by omega), elemBy, sizeBy]
  simp only [Result.andThen, sliced, Int.toNat_natCast]
theorem bytes_cut (g off N c p m : Nat) (hm : 0 < m) (hp : p + m ≤ N) (hN : N ≤ c) : ∀ W, (Instr.slice 36 (.slice (some ⟨g, off, none⟩) N c) (some (.int .i64 (p : Int))) (some (.int .i64 ((p : Int) + (m : Int)))) (some (.int .i64 ((p : Int) + (m : Int))))).run Tryd.prog W = .ok (.slice (some ⟨g, off + p, none⟩) m m) W := fun W => by
  rw [run_slice_lhm W 36 (some ⟨g, off, none⟩) N c undBy .i64 .i64 .i64 _ _ _ (by omega) (by omega) (by omega) (by omega), elemBy, sizeBy]
  simp only [Result.andThen, sliced, Int.toNat_natCast, show ((p : Int) + (m : Int)).toNat = p + m by omega]
  rw [if_neg (by omega), show p + m - p = m by omega]
  simp [addr_add]

set_option maxRecDepth 100000 in
set_option maxHeartbeats 4000000 in
theorem chunk1_in (n : Nat) (l bx bn : Nat) (g off c : Nat) (a : Option Addr) (b : List Nat) (S : Nat) (hb : b.length ≤ 30000) (h1 : 1 ≤ S) (h2 : S ≤ 256) (hbc : b.length ≤ c) (hcm : c ≤ 9223372036854775807) (ha : b = [] ∨ a = some ⟨g, off, none⟩) (J Jx : List Nat → World → Prop)
    (hJ : ∀ pre W, J pre W → J pre W.drew)
    (hY : ∀ pre x W, J pre W → pre.length < cntN b.length S → YieldAt Fence.wide (n - 1) Tryd.prog l (encC g off b S x) W fun e W' =>
      (e = .returned (.bool true) ∧ J (pre ++ [x]) W' ∧ KeepC bx bn W W') ∨ (e = .returned (.bool false) ∧ Jx (pre ++ [x]) W'))
    (W : World) (hbx : W.cell? ⟨bx, 0, none⟩ = some (.slice a b.length c)) (hbn : W.cell? ⟨bn, 0, none⟩ = some (.int .i64 (S : Int))) (h0 : J [] W) :
    CallsIn Fence.wide n Tryd.prog 75 #[.func (.yield l) #[] #[], .pointer (some ⟨bx, 0, none⟩), .pointer (some ⟨bn, 0, none⟩)] W fun e W' => (∃ v, e = .returned v) ∧
      ((∃ ys, ys = List.range (cntN b.length S) ∧ J ys W') ∨ (∃ pre, (∃ k, k ≤ cntN b.length S ∧ pre = List.range k) ∧ Jx pre W')) := by
  have mixed : Tryd.prog.follows .mixedOrders = true := by kernel_rfl
  refine callsIn_of_wp Tryd.func75 rfl trivial ?_ rfl
  simp only [Tryd.ntmps75, List.size_toArray, List.length_cons, List.length_nil, Nat.reduceAdd, Nat.reduceSub, Array.replicate_succ, Array.replicate_zero, List.push_toArray, List.append_toArray, List.nil_append, List.cons_append]
  obtain ⟨N, hN⟩ : ∃ N, N = b.length := ⟨_, rfl⟩
  have HNE := Lib.hid hN
  rw [← hN] at hbx hb hbc
  clear hN
  have HM : Hid (∀ i, i < cntN (N : Int) (S : Int) ↔ i * S < N) := fun i => cnt_lt h1 h2
  gi_wp2
  gi_loopw [4] (fun i wr => ∃ k : Nat, k ≤ cntN (N : Int) (S : Int) ∧ i = .int .i64 ((k * S : Nat) : Int) ∧ J (List.range k) wr ∧ KeepC bx bn W wr)
    (fun i _ => 30000 + 256 - (intOf i).toNat)
  case atStart => exact ⟨0, Nat.zero_le _, by simp, h0, KeepC.refl _ _ _⟩
  case round =>
    obtain ⟨k, hk, rfl, hJs, hnx⟩ := hrel
    have c0 : wr.cell? ⟨bx, 0, none⟩ = some (.slice a N c) := (World.cell?_of_block (a := ⟨bx, 0, none⟩) hnx.2.1).trans hbx
    have c1 : wr.cell? ⟨bn, 0, none⟩ = some (.int .i64 (S : Int)) := (World.cell?_of_block (a := ⟨bn, 0, none⟩) hnx.2.2).trans hbn
    by_cases hlt : k < cntN (N : Int) (S : Int)
    · have hkS := (HM.out k).1 hlt
      obtain ⟨fn, tmps, assign, body, hy, hR⟩ := hY _ k wr.drew (hJ _ _ hJs) (by rw [List.length_range, ← HNE.out]; exact hlt)
      obtain ⟨m, hme⟩ : ∃ m, m = (chunkAt b S k).length := ⟨_, rfl⟩
      obtain ⟨p, hp⟩ : ∃ p, p = k * S := ⟨_, rfl⟩
      have hmm : m = min S (N - p) := by rw [hme, chunkAt_len, hp, HNE.out]
      have e : encC g off b S k = #[.slice (some ⟨g, off + p, none⟩) m m] := by unfold encC; rw [← hme, ← hp]
      rw [e] at hy
      have ha2 : a = some ⟨g, off, none⟩ := by
        rcases ha with h | h
        · rw [h] at HNE; have := HNE.out; simp at this; omega
        · exact h
      subst ha2
      rw [← hp] at hkS
      obtain ⟨A1, hs1⟩ := bytes_from (some ⟨g, off, none⟩) N c p (by omega) hbc
      have hs3 := bytes_cut g off N c p m (by omega) (by omega) hbc
      obtain ⟨r, hr⟩ : ∃ r, r = N - p := ⟨_, rfl⟩
      rw [← hr] at hs1 hmm
      have hmin : min (S : Int) (r : Int) = (m : Int) := by omega
      have hpm : p + m ≤ 30000 := by omega
      have HPX : Hid (p + S = (k + 1) * S) := by show _ = _; rw [Nat.add_mul, Nat.one_mul, hp]
      have hmS : m ≤ S := by omega
      rw [← hp]
      have hpl : p < 30000 := by omega
      have HPK := Lib.hid hp
      have HKL := Lib.hid hlt
      have hpN : p < N := hkS
      clear hmm e hme hkS hp hr hlt
      gi_wp2
      refine wpIn_wide.2 ?_
      go_big_region_o
      gi_wp2
      refine ⟨fun h => (by cases h), hR.mono ?_⟩
      rintro e W3 (⟨rfl, hJ3, hk3⟩ | ⟨rfl, hJx3⟩)
      · have hnx3 := hnx.trans (KeepC.trans (⟨Nat.le_refl _, rfl, rfl⟩ : KeepC bx bn wr wr.drew) hk3)
        have d1 : W3.cell? ⟨bn, 0, none⟩ = some (.int .i64 (S : Int)) := (World.cell?_of_block (a := ⟨bn, 0, none⟩) hnx3.2.2).trans hbn
        clear c0 c1 hbx hbn hs1 hs3
        gi_wp2
        go_roundw
        case rel => exact ⟨k + 1, by have := HKL.out; omega, by rw [← HPX.out]; go_num, by rw [List.range_succ]; exact hJ3, hnx3⟩
        case measure => simp [intOf]; omega
      · gi_wp2
        refine bodyPost_ret (results_none rfl _ _ _) rfl ?_
        exact ⟨⟨_, rfl⟩, .inr ⟨_, ⟨k + 1, by rw [← HNE.out]; have := HKL.out; omega, (List.range_succ).symm⟩, hJx3⟩⟩
    · have hkS : ¬ k * S < N := fun h => hlt ((HM.out k).2 h)
      obtain rfl : k = cntN (N : Int) (S : Int) := by omega
      obtain ⟨p, hp⟩ : ∃ p, p = cntN (N : Int) (S : Int) * S := ⟨_, rfl⟩
      rw [← hp] at hkS ⊢
      have hpz : ¬ (p : Int) < (N : Int) := by omega
      gi_wp2
      go_end0
      first
        | exact ⟨⟨_, rfl⟩, .inl ⟨_, rfl, by rw [← HNE.out]; exact hJs⟩⟩
        | exact ⟨⟨_, rfl⟩, .inl (by rw [← HNE.out]; exact hJs)⟩
set_option maxHeartbeats 1000000 in
theorem chunk_any (a : Option Addr) (len cap S : Nat) (h1 : 1 ≤ S) (h2 : S ≤ 256) (w : World) :
    Calls Tryd.prog 43 #[.slice a len cap, .int .i64 (S : Int)] w fun e w' => e = .returned (.func (.func 75) #[] #[.pointer (some ⟨w.heap.size, 0, none⟩), .pointer (some ⟨w.heap.size + 1, 0, none⟩)]) ∧ w' = (w.alloc (.cells #[.slice a len cap] 36)).alloc (.cells #[.int .i64 (S : Int)] 3) := by
  have d1 : decide ((S : Int) < 1) = false := decide_eq_false (by omega)
  have d2 : ¬ (S : Int) < 1 := by omega
  have mk : ∀ (fn : Fn) (first cap : Array Value) (w : World), (Instr.makeFunc fn first cap).run Tryd.prog w = .ok (.func fn first cap) w := fun _ _ _ _ => rfl
  go_enter Tryd.func43, Tryd.ntmps43
  go_wp2_with fail
  go_ret
  exact ⟨rfl, rfl⟩
theorem chunk_stops (n : Nat) (bx bn : Nat) (g off c : Nat) (a : Option Addr) (b : List Nat) (S : Nat) (hb : b.length ≤ 30000) (h1 : 1 ≤ S) (h2 : S ≤ 256) (hbc : b.length ≤ c) (hcm : c ≤ 9223372036854775807) (ha : b = [] ∨ a = some ⟨g, off, none⟩)
    (w : World) (hbx : w.cell? ⟨bx, 0, none⟩ = some (.slice a b.length c)) (hbn : w.cell? ⟨bn, 0, none⟩ = some (.int .i64 (S : Int))) :
    SeqStopsK Fence.wide n Tryd.prog 75 #[.pointer (some ⟨bx, 0, none⟩), .pointer (some ⟨bn, 0, none⟩)] (encC g off b S) (KeepC bx bn) (fun ys => ys = List.range (cntN b.length S)) (fun pre => ∃ k, k ≤ cntN b.length S ∧ pre = List.range k) (cntN b.length S) w := fun l J Jx W hW hJ hJx hY h0 => by
  have hlt : ∀ {p : Addr} {u : Value}, w.cell? p = some u → W.cell? p = some u := fun {p u} h => (hW.cell (World.block_lt_of_cell? w _ h)).trans h
  exact chunk1_in n l bx bn g off c a b S hb h1 h2 hbc hcm ha J Jx (fun pre W h => hJ pre W W.drew none h (grown_drew W) (fun r e => by cases e)) hY W (hlt hbx) (hlt hbn) h0
end Go.Proofs.YtechekkojinkmaaDoor
end

section
namespace Go.Proofs.YtechekkojinkmaaDoor
open Go.ChangeShapes Go.WideShapes Go.ChangeAt Go.RowKit Go.Joins Go.MapKept
set_option linter.unusedVariables false

def keyV (k : Int × Int) : Value := .agg #[.int .i64 k.1, .int .i64 k.2]
def keyR (k : Int × Int) : Prop := i64R k.1 ∧ i64R k.2
theorem keyV_inj {a b : Int × Int} (h : keyV a = keyV b) : a = b := by
  unfold keyV at h
  injection h with h
  have h2 := congrArg Array.toList h
  simp at h2
  exact Prod.ext h2.1 h2.2
theorem partLaw : WideMaps.KeyLaw Tryd.prog 89 := deep_law (m := 4) (by decide) (by kernel_rfl) (by kernel_rfl) (by kernel_rfl)
theorem part_key {k : Int × Int} (h : keyR k) : ∃ l, keyOf Tryd.prog 89 (keyV k) = some l := by
  obtain ⟨⟨a1, a2⟩, b1, b2⟩ := h
  have m1 : IntKind.i64.min = -9223372036854775808 := by kernel_rfl
  have m2 : IntKind.i64.max = 9223372036854775807 := by kernel_rfl
  have w1 : (Lit.int .i64 k.1).wf = true := by simp [Lit.wf]; omega
  have w2 : (Lit.int .i64 k.2).wf = true := by simp [Lit.wf]; omega
  have e1 : Tryd.prog.keyType 89 = true := by kernel_rfl
  have e2 : (keyV k).formed Tryd.prog 89 = true := by kernel_rfl
  have n0 : decide (0 < Tryd.prog.types.size) = true := by kernel_rfl
  have n1 := of_decide_eq_true n0
  obtain ⟨n, hn⟩ : ∃ n, Tryd.prog.types.size + 1 = n + 1 + 1 := ⟨Tryd.prog.types.size - 1, by omega⟩
  have u0 : Tryd.prog.underlying 3 = some (.int .i64) := Tryd.underlying3
  have c1 : Tryd.prog.cellsOf 3 = 1 := by kernel_rfl
  have c2 : Tryd.prog.cellsOf 89 = 2 := by kernel_rfl
  unfold keyOf
  rw [Tryd.underlying89]
  simp only [e1, e2, Bool.and_self, if_true, hn]
  simp [keyV, Value.cells, Program.keyLits, Tryd.underlying89, u0, c1, c2, w1, w2]

abbrev Mp := List ((Int × Int) × Nat)
def entV (x : (Int × Int) × Nat) : Value × Value := (keyV x.1, .int .i64 (x.2 : Int))
structure MpAt (w : World) (b : Nat) (M : Mp) : Prop where
  here : ∃ es clock, w.heap[b]? = some (.map es clock) ∧ es.toList.map (fun e => (e.key, e.val)) = M.map entV
  rng : ∀ x ∈ M, keyR x.1
theorem MpAt.new (w : World) : MpAt (w.alloc (.map #[] 0)) w.heap.size [] := ⟨⟨#[], 0, heap_alloc_last w _, rfl⟩, fun x hx => (by cases hx)⟩
theorem MpAt.lt {w : World} {b : Nat} {M : Mp} (h : MpAt w b M) : b < w.heap.size := by
  obtain ⟨es, c, h1, _⟩ := h.here
  exact (Array.getElem?_eq_some_iff.1 h1).1
theorem MpAt.fr {w w' : World} {b : Nat} {M : Mp} {X : Nat → Prop} (h : MpAt w b M) (k : Fr X w w') (hX : ¬ X b) : MpAt w' b M := by
  have hl := h.lt
  obtain ⟨es, c, h1, h2⟩ := h.here
  exact ⟨⟨es, c, (k.block b hl hX).trans h1, h2⟩, h.rng⟩
theorem MpAt.keys {M : Mp} {es : List MapEntry} (h : es.map (fun e => (e.key, e.val)) = M.map entV) (hr : ∀ x ∈ M, keyR x.1) : ∀ e ∈ es, ∃ l, keyOf Tryd.prog 89 e.key = some l := fun e he => by
  have h1 : (e.key, e.val) ∈ M.map entV := h ▸ List.mem_map.2 ⟨e, he, rfl⟩
  obtain ⟨x, hx, hxe⟩ := List.mem_map.1 h1
  have h2 : keyV x.1 = e.key := congrArg Prod.fst hxe
  rw [← h2]
  exact part_key (hr x hx)
theorem MpAt.look {w : World} {b : Nat} {M : Mp} (h : MpAt w b M) {k : Int × Int} (hk : keyR k) :
    (∃ v, (k, v) ∈ M ∧ (Instr.lookup 85 (.map (some b)) (keyV k) true).run Tryd.prog w = .ok (.tuple #[.int .i64 (v : Int), .bool true]) w) ∨
    ((∀ x ∈ M, x.1 ≠ k) ∧ (Instr.lookup 85 (.map (some b)) (keyV k) true).run Tryd.prog w = .ok (.tuple #[.int .i64 0, .bool false]) w) := by
  obtain ⟨es, c, h1, h2⟩ := h.here
  obtain ⟨l, hl⟩ := part_key hk
  have hz : (zeroValue 3).run Tryd.prog w = .ok (.int .i64 0) w := by kernel_rfl
  rcases partLaw.find w hl es.toList (MpAt.keys h2 h.rng) with ⟨f1, f2⟩ | ⟨j, e0, f1, f2, f3⟩
  · refine .inr ⟨fun x hx e => ?_, by simp [Instr.lookup, run_underlying Tryd.underlying85, MapKept.run_getObj_map h1, partLaw.check w _ hl, f1, hz, Result.andThen]⟩
    have h3 : entV x ∈ es.toList.map (fun e => (e.key, e.val)) := h2 ▸ List.mem_map.2 ⟨x, hx, rfl⟩
    obtain ⟨y, hy, hye⟩ := List.mem_map.1 h3
    refine f2 y hy ?_
    have h4 : y.key = keyV x.1 := congrArg Prod.fst hye
    rw [h4, e]
  · left
    have h3 : (e0.key, e0.val) ∈ M.map entV := h2 ▸ List.mem_map.2 ⟨e0, List.mem_of_getElem? f2, rfl⟩
    obtain ⟨x, hx, hxe⟩ := List.mem_map.1 h3
    have h4 : keyV x.1 = keyV k := (congrArg Prod.fst hxe).trans f3
    have h5 : Value.int .i64 (x.2 : Int) = e0.val := congrArg Prod.snd hxe
    have h6 := keyV_inj h4
    refine ⟨x.2, by rw [← h6]; exact hx, by simp [Instr.lookup, run_underlying Tryd.underlying85, MapKept.run_getObj_map h1, partLaw.check w _ hl, f1, ← h5, Result.andThen]⟩
theorem MpAt.add {w : World} {b : Nat} {M : Mp} (h : MpAt w b M) {k : Int × Int} (hk : keyR k) (hno : ∀ x ∈ M, x.1 ≠ k) (v : Nat) :
    ∃ w', (Instr.mapUpdate 85 (.map (some b)) (keyV k) (.int .i64 (v : Int))).run Tryd.prog w = .ok () w' ∧ MpAt w' b (M ++ [(k, v)]) ∧ Fr (fun j => j = b) w w' := by
  obtain ⟨es, c, h1, h2⟩ := h.here
  obtain ⟨l, hl⟩ := part_key hk
  rcases partLaw.find w hl es.toList (MpAt.keys h2 h.rng) with ⟨f1, f2⟩ | ⟨j, e0, f1, f2, f3⟩
  · obtain ⟨g1, g2⟩ := MapKept.heap_set (o' := .map (es.push ⟨keyV k, .int .i64 (v : Int), c⟩) (c + 1)) h1
    refine ⟨{ w with heap := w.heap.setIfInBounds b (.map (es.push ⟨keyV k, .int .i64 (v : Int), c⟩) (c + 1)) }, ?_, ⟨⟨_, _, g1, ?_⟩, fun x hx => ?_⟩, ⟨rfl, rfl, rfl, by simp, fun i hi hx => g2 i hx⟩⟩
    · simp [Instr.mapUpdate, run_underlying Tryd.underlying85, MapKept.run_getObj_map h1, partLaw.check w false hl, f1, MapKept.run_setObj_map _ h1, Result.andThen]
    · rw [Array.toList_push, List.map_append, List.map_append, h2]
      rfl
    · rcases List.mem_append.1 hx with hx | hx
      · exact h.rng x hx
      · simp only [List.mem_singleton] at hx
        rw [hx]; exact hk
  · exfalso
    have h3 : (e0.key, e0.val) ∈ M.map entV := h2 ▸ List.mem_map.2 ⟨e0, List.mem_of_getElem? f2, rfl⟩
    obtain ⟨x, hx, hxe⟩ := List.mem_map.1 h3
    exact hno x hx (keyV_inj ((congrArg Prod.fst hxe).trans f3))
theorem wpList_mapUp {ops : Array Oper} {rest : List Oper} {o : Oper} {a : Act} {w : World} {Q : Exit → Act → World → Prop} (hgd : o.guard = none) (t : TypeId) (m x y : Operand) (ho : o.op = .mapUpdate t m x y)
    (mv kv v : Value) (hm : a.eval m = mv) (hx : a.eval x = kv) (hy : a.eval y = v) (w' : World) (hr : (Instr.mapUpdate t mv kv v).run Tryd.prog w = .ok () w')
    (h : wpList Tryd.prog ops Q rest (a.put o.dst undef) w') : wpList Tryd.prog ops Q (o :: rest) a w := by
  refine wpList_plain hgd fun K hK => ?_
  unfold Oper.wp execOp
  simp only [ho, hm, hx, hy, Sem.run_bind, Sem.run_pure, hr, Result.andThen_ok]
  exact hK _ _ h
theorem wpList_look {ops : Array Oper} {rest : List Oper} {o : Oper} {a : Act} {w : World} {Q : Exit → Act → World → Prop} (hgd : o.guard = none) (t : TypeId) (m x : Operand) (c : Bool) (ho : o.op = .lookup t m x c)
    (mv kv v : Value) (hm : a.eval m = mv) (hx : a.eval x = kv) (hr : (Instr.lookup t mv kv c).run Tryd.prog w = .ok v w)
    (h : wpList Tryd.prog ops Q rest (a.put o.dst v) w) : wpList Tryd.prog ops Q (o :: rest) a w := by
  refine wpList_plain hgd fun K hK => ?_
  unfold Oper.wp execOp
  simp only [ho, hm, hx, Sem.run_bind, Sem.run_pure, hr, Result.andThen_ok]
  exact hK _ _ h
/-- A key's two cells. -/
def kvV (k : Int × Int) (j : Nat) : Value := if j = 0 then .int .i64 k.1 else .int .i64 k.2
theorem keyV_row (k : Int × Int) : keyV k = .agg (rowArr 2 (kvV k)) := rfl

/-! Which packets of a set come first. -/

def partOf (p : Pk) : Int × Int := (p.kind, if p.kind = 1 then 0 else p.index)
theorem part_rng {p : Pk} (h : PkIn p) : keyR (partOf p) := by
  unfold partOf keyR
  refine ⟨h.kind, ?_⟩
  simp only
  split
  · exact i64R_small 0 (by decide)
  · exact h.index
structure Fst (F : List Pw) (name : List Nat) (k : Nat) (M : Mp) : Prop where
  one : ∀ x ∈ M, ∃ f, x.2 < k ∧ F[x.2]? = some f ∧ f.p.set = name ∧ partOf f.p = x.1
  all : ∀ i f, i < k → F[i]? = some f → f.p.set = name → ∃ v, (partOf f.p, v) ∈ M
  nd : (M.map (·.1)).Nodup
theorem Fst.zero (F : List Pw) (name : List Nat) : Fst F name 0 [] := ⟨fun x hx => (by cases hx), fun i f hi => (by omega), List.nodup_nil⟩
theorem Fst.skip {F : List Pw} {name : List Nat} {k : Nat} {M : Mp} (h : Fst F name k M) {f : Pw} (hf : F[k]? = some f) (hn : f.p.set ≠ name) : Fst F name (k + 1) M :=
  ⟨fun x hx => by obtain ⟨g, h1, h2⟩ := h.one x hx; exact ⟨g, by omega, h2⟩, fun i g hi hg hs => by
    by_cases e : i = k
    · subst e; rw [hf] at hg; cases hg; exact absurd hs hn
    · exact h.all i g (by omega) hg hs, h.nd⟩
theorem Fst.had {F : List Pw} {name : List Nat} {k : Nat} {M : Mp} (h : Fst F name k M) {f : Pw} (hf : F[k]? = some f) {v : Nat} (hv : (partOf f.p, v) ∈ M) : Fst F name (k + 1) M :=
  ⟨fun x hx => by obtain ⟨g, h1, h2⟩ := h.one x hx; exact ⟨g, by omega, h2⟩, fun i g hi hg hs => by
    by_cases e : i = k
    · subst e; rw [hf] at hg; cases hg; exact ⟨v, hv⟩
    · exact h.all i g (by omega) hg hs, h.nd⟩
theorem Fst.add {F : List Pw} {name : List Nat} {k : Nat} {M : Mp} (h : Fst F name k M) {f : Pw} (hf : F[k]? = some f) (hn : f.p.set = name) (hno : ∀ x ∈ M, x.1 ≠ partOf f.p) : Fst F name (k + 1) (M ++ [(partOf f.p, k)]) := by
  refine ⟨fun x hx => ?_, fun i g hi hg hs => ?_, ?_⟩
  · rcases List.mem_append.1 hx with hx | hx
    · obtain ⟨g, h1, h2⟩ := h.one x hx; exact ⟨g, by omega, h2⟩
    · simp only [List.mem_singleton] at hx
      subst hx
      exact ⟨f, by show k < k + 1; omega, hf, hn, rfl⟩
  · by_cases e : i = k
    · subst e; rw [hf] at hg; cases hg; exact ⟨i, by simp⟩
    · obtain ⟨v, hv⟩ := h.all i g (by omega) hg hs
      exact ⟨v, List.mem_append_left _ hv⟩
  · rw [List.map_append, List.nodup_append]
    refine ⟨h.nd, by simp, fun a ha b hb => ?_⟩
    simp only [List.map_cons, List.map_nil, List.mem_singleton] at hb
    subst hb
    obtain ⟨x, hx, rfl⟩ := List.mem_map.1 ha
    exact hno x hx
end Go.Proofs.YtechekkojinkmaaDoor
end

section
namespace Go.Proofs.YtechekkojinkmaaDoor
open Go.ChangeShapes Go.WideShapes Go.ChangeAt Go.RowKit Go.Joins
set_option linter.unusedVariables false

inductive Got (F : List Pw) (M : Mp) (sl : Int) : Nat → St → Prop
  | zero : Got F M sl 0 ⟨sl, [], []⟩
  | next {k : Nat} {S : St} {a b : Nat} {f g : Pw} (h : Got F M sl k S) (ha : ((2, (k : Int)), a) ∈ M) (hb : ((3, (k : Int)), b) ∈ M) (hf : F[a]? = some f) (hg : F[b]? = some g) :
      Got F M sl (k + 1) ⟨sl, S.files ++ [f.p.file], S.slices ++ g.p.sums⟩
structure GotIn (F : List Pw) (sl : Int) (k : Nat) (S : St) : Prop where
  slice : S.slice = sl
  files : S.files.length = k
  few : k ≤ F.length
  most : S.slices.length ≤ 100 * k
  fok : ∀ x ∈ S.files, FilOk x
  sok : ∀ x ∈ S.slices, SmOk x
theorem Got.ids {F : List Pw} {M : Mp} {sl : Int} {name : List Nat} {k : Nat} {S : St} (hF : Fst F name F.length M) (h : Got F M sl k S) :
    ∃ l : List Nat, l.length = k ∧ l.Nodup ∧ ∀ x ∈ l, x < F.length ∧ ∃ j : Nat, j < k ∧ ((2, (j : Int)), x) ∈ M := by
  induction h with
  | zero => exact ⟨[], rfl, List.nodup_nil, fun x hx => (by cases hx)⟩
  | @next k S a b f g h ha hb hf hg ih =>
    obtain ⟨l, h1, h2, h3⟩ := ih
    have hal := (List.getElem?_eq_some_iff.1 hf).1
    refine ⟨l ++ [a], by simp [h1], ?_, fun x hx => ?_⟩
    · rw [List.nodup_append]
      refine ⟨h2, by simp, fun x hx y hy => ?_⟩
      simp only [List.mem_singleton] at hy
      subst hy
      rintro rfl
      obtain ⟨_, j, hj, hm⟩ := h3 x hx
      obtain ⟨f1, _, e1, _, p1⟩ := hF.one _ ha
      obtain ⟨f2, _, e2, _, p2⟩ := hF.one _ hm
      simp only at e1 e2 p1 p2
      rw [e1] at e2
      cases e2
      rw [p1] at p2
      have := congrArg Prod.snd p2
      simp only at this
      omega
    · rcases List.mem_append.1 hx with hx | hx
      · obtain ⟨q1, j, hj, hm⟩ := h3 x hx
        exact ⟨q1, j, by omega, hm⟩
      · simp only [List.mem_singleton] at hx
        subst hx
        exact ⟨hal, k, by omega, ha⟩
theorem Got.okIn {F : List Pw} {M : Mp} {sl : Int} {name : List Nat} {k : Nat} {S : St} (hF : Fst F name F.length M) (hok : ∀ f ∈ F, PkIn f.p) (hsm : ∀ f ∈ F, f.p.set = name → f.p.sums.length ≤ 100) (h : Got F M sl k S) : GotIn F sl k S := by
  obtain ⟨l, l1, l2, l3⟩ := h.ids hF
  have hfew : k ≤ F.length := by rw [← l1]; exact pigeon _ _ l2 fun x hx => (l3 x hx).1
  clear l1 l2 l3
  induction h with
  | zero => exact ⟨rfl, rfl, Nat.zero_le _, Nat.le_refl _, fun x hx => (by cases hx), fun x hx => (by cases hx)⟩
  | @next k S a b f g h ha hb hf hg ih =>
    obtain ⟨i1, i2, i3, i4, i5, i6⟩ := ih (by omega)
    have mf : f ∈ F := List.mem_of_getElem? hf
    have mg : g ∈ F := List.mem_of_getElem? hg
    obtain ⟨g', _, e1, s1, _⟩ := hF.one _ hb
    simp only at e1
    rw [hg] at e1
    cases e1
    have hgs := hsm g mg s1
    refine ⟨rfl, by simp [i2], hfew, ?_, fun x hx => ?_, fun x hx => ?_⟩
    · simp only [List.length_append]; omega
    · simp only [List.mem_append, List.mem_singleton] at hx
      rcases hx with hx | rfl
      · exact i5 x hx
      · exact (hok f mf).file
    · simp only [List.mem_append] at hx
      rcases hx with hx | hx
      · exact i6 x hx
      · exact (hok g mg).sums x hx
def sv3 (z : Int) (fv sv : Value) (j : Nat) : Value := if j = 0 then .int .i64 z else if j = 1 then fv else sv
def zSetA : Array Value := #[.int .i64 0, .slice none 0 0, .slice none 0 0]
structure JoinSt (wq wr : World) (S : St) (fv sv : Value) : Prop where
  box : Row wr wq.heap.size 25 3 3 (sv3 S.slice fv sv)
  fo : OwnF (wq.heap.size + 1) wr fv S.files
  so : OwnS (wq.heap.size + 1) wr sv S.slices
  below : Below wq.heap.size wq wr
theorem JoinSt.first (wq : World) (z : Int) : JoinSt wq (wq.alloc (.cells #[.int .i64 z, .slice none 0 0, .slice none 0 0] 25)) ⟨z, [], []⟩ (.slice none 0 0) (.slice none 0 0) := by
  have h : (wq.alloc (.cells (rowArr 3 (sv3 z (.slice none 0 0) (.slice none 0 0))) 25)).heap[wq.heap.size]? = some (.cells (rowArr 3 (sv3 z (.slice none 0 0) (.slice none 0 0))) 25 (0, 0)) := heap_alloc_last wq _
  exact ⟨Row.of_whole h, OwnF.nil _ _, OwnS.nil _ _, (Below.refl _ _).alloc (Nat.le_refl _) _⟩
theorem JoinSt.later {wq wr w' : World} {S : St} {fv sv : Value} (h : JoinSt wq wr S fv sv) (k : Below wr.heap.size wr w') : JoinSt wq w' S fv sv :=
  ⟨h.box.below k h.box.lt, h.fo.kept k, h.so.kept k, h.below.trans (k.mono h.below.size)⟩
theorem JoinSt.file {wq w1 w2 : World} {S : St} {fv sv v2 : Value} {f : Fil} (h : JoinSt wq w1 S fv sv) (o2 : OwnF (wq.heap.size + 1) w2 v2 (S.files ++ [f])) (k : Fr (fun b => fv.ownBlock = some b) w1 w2) :
    Row w2 wq.heap.size 25 3 3 (sv3 S.slice fv sv) ∧ JoinSt wq (w2.setCell ⟨wq.heap.size, 1, none⟩ v2) ⟨S.slice, S.files ++ [f], S.slices⟩ v2 sv := by
  obtain ⟨cs, hc, h1, h2⟩ := h.box
  have hne : ¬ fv.ownBlock = some wq.heap.size := fun e => by have := (h.fo.at e).1; omega
  have hb2 : Row w2 wq.heap.size 25 3 3 (sv3 S.slice fv sv) := ⟨cs, (k.block _ (Array.getElem?_eq_some_iff.1 hc).1 hne).trans hc, h1, h2⟩
  have hs2 : OwnS (wq.heap.size + 1) w2 sv S.slices := h.so.fr k fun b hb hX => own_apart h.fo h.so hX hb
  have hfr : Fr (fun j => j = wq.heap.size) w2 (w2.setCell ⟨wq.heap.size, 1, none⟩ v2) := Fr.set (X := fun j => j = wq.heap.size) (p := ⟨wq.heap.size, 1, none⟩) (Fr.refl _ w2) (fun _ => rfl) _
  have hB2 : Below wq.heap.size wq w2 := h.below.trans (k.below h.below.size fun j hj hX => by have := (h.fo.at hX).1; omega)
  refine ⟨hb2, ⟨(hb2.upd 1 (by omega) v2).mono (Nat.le_refl _) fun j hj => ?_, o2.fr hfr fun b hb e => ?_, hs2.fr hfr fun b hb e => ?_, below_cellB hB2 hB2.size (Nat.le_refl _) _ _⟩⟩
  · unfold sv3
    have : j = 0 ∨ j = 1 ∨ j = 2 := by omega
    rcases this with rfl | rfl | rfl <;> rfl
  · have := (o2.at hb).1; omega
  · have := (hs2.at hb).1; omega
theorem JoinSt.sums {wq w1 w2 : World} {S : St} {fv sv v2 : Value} {G : List Sm} (h : JoinSt wq w1 S fv sv) (o2 : OwnS (wq.heap.size + 1) w2 v2 (S.slices ++ G)) (k : Fr (fun b => sv.ownBlock = some b) w1 w2) :
    Row w2 wq.heap.size 25 3 3 (sv3 S.slice fv sv) ∧ JoinSt wq (w2.setCell ⟨wq.heap.size, 2, none⟩ v2) ⟨S.slice, S.files, S.slices ++ G⟩ fv v2 := by
  obtain ⟨cs, hc, h1, h2⟩ := h.box
  have hne : ¬ sv.ownBlock = some wq.heap.size := fun e => by have := (h.so.at e).1; omega
  have hb2 : Row w2 wq.heap.size 25 3 3 (sv3 S.slice fv sv) := ⟨cs, (k.block _ (Array.getElem?_eq_some_iff.1 hc).1 hne).trans hc, h1, h2⟩
  have hs2 : OwnF (wq.heap.size + 1) w2 fv S.files := h.fo.fr k fun b hb hX => own_apart h.fo h.so hb hX
  have hfr : Fr (fun j => j = wq.heap.size) w2 (w2.setCell ⟨wq.heap.size, 2, none⟩ v2) := Fr.set (X := fun j => j = wq.heap.size) (p := ⟨wq.heap.size, 2, none⟩) (Fr.refl _ w2) (fun _ => rfl) _
  have hB2 : Below wq.heap.size wq w2 := h.below.trans (k.below h.below.size fun j hj hX => by have := (h.so.at hX).1; omega)
  refine ⟨hb2, ⟨(hb2.upd 2 (by omega) v2).mono (Nat.le_refl _) fun j hj => ?_, hs2.fr hfr fun b hb e => ?_, o2.fr hfr fun b hb e => ?_, below_cellB hB2 hB2.size (Nat.le_refl _) _ _⟩⟩
  · unfold sv3
    have : j = 0 ∨ j = 1 ∨ j = 2 := by omega
    rcases this with rfl | rfl | rfl <;> rfl
  · have := (hs2.at hb).1; omega
  · have := (o2.at hb).1; omega

def Lacks (F : List Pw) (M : Mp) : Prop := (∀ x ∈ M, x.1 ≠ (1, 0)) ∨ ∃ m0 f0, ∃ k : Nat, ((1, 0), m0) ∈ M ∧ F[m0]? = some f0 ∧ (k : Int) < f0.p.files ∧ ((∀ x ∈ M, x.1 ≠ (2, (k : Int))) ∨ (∀ x ∈ M, x.1 ≠ (3, (k : Int))))
def JoinPost (F : List Pw) (name : List Nat) (w : World) (e : Ending) (w' : World) : Prop := Below w.heap.size w w' ∧ ∃ M, Fst F name F.length M ∧
  ((e = .returned (.tuple #[.agg zSetA, .int .i64 7]) ∧ Lacks F M) ∨
   (∃ m0 f0 S, ((1, 0), m0) ∈ M ∧ F[m0]? = some f0 ∧ Got F M f0.p.slice f0.p.files.toNat S ∧
     ((e = .returned (.tuple #[.agg zSetA, .int .i64 2]) ∧ ¬ (f0.p.slices = (S.slices.length : Int) ∧ FormedP S ∧ nameS S = name)) ∨
      ((f0.p.slices = (S.slices.length : Int) ∧ FormedP S ∧ nameS S = name) ∧ ∃ fa fc sa sc, e = .returned (.tuple #[.agg (rowArr 3 (setV S fa fc sa sc)), .int .i64 0]) ∧ SetAt w' S fa fc sa sc ∧ (sa = none → sc = 0)))))
end Go.Proofs.YtechekkojinkmaaDoor
end

section
namespace Go.Proofs.YtechekkojinkmaaDoor
open Go.ChangeShapes Go.WideShapes Go.ChangeAt Go.RowKit Go.Joins
set_option linter.unusedVariables false

theorem OwnF.kind {B : Nat} {w : World} {v : Value} {F : List Fil} (h : OwnF B w v F) {b : Nat} (hb : v.ownBlock = some b) : ∃ cs, w.heap[b]? = some (.cells cs 41 (0, 0)) := by
  rcases h.2 with ⟨rfl, _⟩ | ⟨g, cap, cur, rfl, hB, hh, _⟩
  · simp [Value.ownBlock] at hb
  · have : g = b := by simpa [Value.ownBlock] using hb
    subst this
    exact ⟨_, hh⟩
theorem OwnS.kind {B : Nat} {w : World} {v : Value} {F : List Sm} (h : OwnS B w v F) {b : Nat} (hb : v.ownBlock = some b) : ∃ cs, w.heap[b]? = some (.cells cs 57 (0, 0)) := by
  rcases h.2 with ⟨rfl, _⟩ | ⟨g, cap, cur, rfl, hB, hh, _⟩
  · simp [Value.ownBlock] at hb
  · have : g = b := by simpa [Value.ownBlock] using hb
    subst this
    exact ⟨_, hh⟩
theorem JoinSt.fr {wq wr w' : World} {S : St} {fv sv : Value} {X : Nat → Prop} (h : JoinSt wq wr S fv sv) (k : Fr X wr w')
    (hX : ∀ b, X b → wq.heap.size < b ∧ ∀ cs e, wr.heap[b]? = some (.cells cs e (0, 0)) → e ≠ 41 ∧ e ≠ 57) : JoinSt wq w' S fv sv := by
  obtain ⟨cs, hc, h1, h2⟩ := h.box
  refine ⟨⟨cs, (k.block _ (Array.getElem?_eq_some_iff.1 hc).1 fun hx => by have := (hX _ hx).1; omega).trans hc, h1, h2⟩, h.fo.fr k fun b hb hx => ?_, h.so.fr k fun b hb hx => ?_, h.below.trans (k.below h.below.size fun j hj hx => by have := (hX _ hx).1; omega)⟩
  · obtain ⟨_, hc⟩ := h.fo.kind hb
    exact ((hX b hx).2 _ _ hc).1 rfl
  · obtain ⟨_, hc⟩ := h.so.kind hb
    exact ((hX b hx).2 _ _ hc).2 rfl
structure Rest (wq wr : World) (rv : Value) (R : List Bw) : Prop where
  b9 : wr.heap[wq.heap.size + 1]? = some (.cells #[rv] 52 (0, 0))
  ro : Own1 36 (wq.heap.size + 1) wr rv (R.map (·.v))
  bods : ∀ b ∈ R, OwnB wr b.v b.l ∧ IsByte b.l
theorem Rest.fr {wq wr w' : World} {rv : Value} {R : List Bw} {X : Nat → Prop} (h : Rest wq wr rv R) (k : Fr X wr w')
    (hX : ∀ b, X b → ∀ cs e, wr.heap[b]? = some (.cells cs e (0, 0)) → e ≠ 52 ∧ e ≠ 36 ∧ e ≠ 5) : Rest wq w' rv R := by
  refine ⟨(k.block _ (Array.getElem?_eq_some_iff.1 h.b9).1 fun hx => (hX _ hx _ _ h.b9).1 rfl).trans h.b9, h.ro.fr k fun b hb hx => ?_, fun b hb => ⟨(h.bods b hb).1.fr k fun j hj hx => ?_, (h.bods b hb).2⟩⟩
  · obtain ⟨_, hc⟩ := h.ro.kind hb
    exact (hX b hx _ _ hc).2.1 rfl
  · obtain ⟨_, hc⟩ := (h.bods b hb).1.kind hj
    exact (hX j hx _ _ hc).2.2 rfl
structure MkSt (wq wr : World) (S : St) (fv sv rv : Value) (R : List Bw) : Prop where
  j : JoinSt wq wr S fv sv
  r : Rest wq wr rv R
theorem MkSt.later {wq wr w' : World} {S : St} {fv sv rv : Value} {R : List Bw} (h : MkSt wq wr S fv sv rv R) (k : Below wr.heap.size wr w') : MkSt wq w' S fv sv rv R :=
  ⟨h.j.later k, h.r.fr (X := fun _ => False) (Fr.of_below k) (fun b hb => hb.elim)⟩
/-- Blocks that aren't cells may turn. -/
theorem MkSt.turned {wq wr w' : World} {S : St} {fv sv rv : Value} {R : List Bw} {row : Option Nat} (h : MkSt wq wr S fv sv rv R) (k : wr.grownBy w' row) (hr : ∀ r, row = some r → wq.heap.size < r ∧ ∃ o : Obj, wr.heap[r]? = some o ∧ o.isCells = false) : MkSt wq w' S fv sv rv R := by
  have hf : Fr (fun b => row = some b) wr w' := Fr.of_grown k fun b hb => hb
  have hno : ∀ b, row = some b → ∀ cs e, wr.heap[b]? = some (.cells cs e (0, 0)) → False := fun b hb cs e hc => by
    obtain ⟨_, o, ho, hn⟩ := hr b hb
    rw [hc] at ho
    cases ho
    cases hn
  exact ⟨h.j.fr hf fun b hb => ⟨(hr b hb).1, fun cs e hc => (hno b hb cs e hc).elim⟩, h.r.fr hf fun b hb cs e hc => (hno b hb cs e hc).elim⟩
theorem MkSt.file {wq w1 w2 : World} {S : St} {fv sv rv v2 : Value} {R : List Bw} {f : Fil} (h : MkSt wq w1 S fv sv rv R) (o2 : OwnF (wq.heap.size + 1) w2 v2 (S.files ++ [f])) (k : Fr (fun b => fv.ownBlock = some b) w1 w2) :
    Row w2 wq.heap.size 25 3 3 (sv3 S.slice fv sv) ∧ MkSt wq (w2.setCell ⟨wq.heap.size, 1, none⟩ v2) ⟨S.slice, S.files ++ [f], S.slices⟩ v2 sv rv R := by
  obtain ⟨hb, hj⟩ := h.j.file o2 k
  refine ⟨hb, hj, ?_⟩
  obtain ⟨cs0, hc0, _, _⟩ := hb
  refine (h.r.fr k fun b hb cs e hc => ?_).fr (X := fun j => j = wq.heap.size) (Fr.set (X := fun j => j = wq.heap.size) (p := ⟨wq.heap.size, 1, none⟩) (Fr.refl _ w2) (fun _ => rfl) _) fun b hb cs e hc => ?_
  · obtain ⟨_, hc2⟩ := h.j.fo.kind hb
    rw [hc2] at hc
    obtain ⟨_, rfl⟩ : _ ∧ 41 = e := by simpa using hc
    decide
  · subst hb
    rw [hc0] at hc
    obtain ⟨_, rfl⟩ : _ ∧ 25 = e := by simpa using hc
    decide
theorem MkSt.sums {wq w1 w2 : World} {S : St} {fv sv rv v2 : Value} {R : List Bw} {G : List Sm} (h : MkSt wq w1 S fv sv rv R) (o2 : OwnS (wq.heap.size + 1) w2 v2 (S.slices ++ G)) (k : Fr (fun b => sv.ownBlock = some b) w1 w2) :
    Row w2 wq.heap.size 25 3 3 (sv3 S.slice fv sv) ∧ MkSt wq (w2.setCell ⟨wq.heap.size, 2, none⟩ v2) ⟨S.slice, S.files, S.slices ++ G⟩ fv v2 rv R := by
  obtain ⟨hb, hj⟩ := h.j.sums o2 k
  refine ⟨hb, hj, ?_⟩
  obtain ⟨cs0, hc0, _, _⟩ := hb
  refine (h.r.fr k fun b hb cs e hc => ?_).fr (X := fun j => j = wq.heap.size) (Fr.set (X := fun j => j = wq.heap.size) (p := ⟨wq.heap.size, 2, none⟩) (Fr.refl _ w2) (fun _ => rfl) _) fun b hb cs e hc => ?_
  · obtain ⟨_, hc2⟩ := h.j.so.kind hb
    rw [hc2] at hc
    obtain ⟨_, rfl⟩ : _ ∧ 57 = e := by simpa using hc
    decide
  · subst hb
    rw [hc0] at hc
    obtain ⟨_, rfl⟩ : _ ∧ 25 = e := by simpa using hc
    decide
theorem MkSt.src {wq w1 w2 : World} {S : St} {fv sv rv v2 : Value} {R : List Bw} {g : Bw} (h : MkSt wq w1 S fv sv rv R) (hG : OwnB w1 g.v g.l ∧ IsByte g.l) (o2 : Own1 36 (wq.heap.size + 1) w2 v2 (R.map (·.v) ++ [g.v])) (k : Fr (fun b => rv.ownBlock = some b) w1 w2) :
    w2.heap[wq.heap.size + 1]? = some (.cells #[rv] 52 (0, 0)) ∧ MkSt wq (w2.setCell ⟨wq.heap.size + 1, 0, none⟩ v2) S fv sv v2 (R ++ [g]) := by
  have hk1 : ∀ b, rv.ownBlock = some b → wq.heap.size < b ∧ ∃ cs, w1.heap[b]? = some (.cells cs 36 (0, 0)) := fun b hb => ⟨by have := (h.r.ro.at hb).1; omega, h.r.ro.kind hb⟩
  have h9 : w2.heap[wq.heap.size + 1]? = some (.cells #[rv] 52 (0, 0)) := (k.block _ (Array.getElem?_eq_some_iff.1 h.r.b9).1 fun hx => by
    obtain ⟨_, hc⟩ := (hk1 _ hx).2
    exact kinds_ne hc h.r.b9 (by decide)).trans h.r.b9
  have hs : Fr (fun j => j = wq.heap.size + 1) w2 (w2.setCell ⟨wq.heap.size + 1, 0, none⟩ v2) := Fr.set (X := fun j => j = wq.heap.size + 1) (p := ⟨wq.heap.size + 1, 0, none⟩) (Fr.refl _ w2) (fun _ => rfl) _
  have hj2 : JoinSt wq w2 S fv sv := h.j.fr k fun b hb => ⟨(hk1 b hb).1, fun cs e hc => by
    obtain ⟨_, hc2⟩ := (hk1 b hb).2
    rw [hc2] at hc
    obtain ⟨_, rfl⟩ : _ ∧ 36 = e := by simpa using hc
    decide⟩
  have hall : ∀ b ∈ R ++ [g], OwnB w1 b.v b.l ∧ IsByte b.l := fun b hb => by
    rcases List.mem_append.1 hb with h1 | h1
    · exact h.r.bods b h1
    · rw [List.mem_singleton.1 h1]; exact hG
  refine ⟨h9, hj2.fr hs fun b hb => ⟨by omega, fun cs e hc => ?_⟩, Boxed.set v2 h9, ?_, fun b hb => ⟨((hall b hb).1.fr k fun j hj hx => ?_).fr hs fun j hj hx => ?_, (hall b hb).2⟩⟩
  · subst hb
    rw [h9] at hc
    obtain ⟨_, rfl⟩ : _ ∧ 52 = e := by simpa using hc
    decide
  · rw [List.map_append]
    refine o2.fr hs fun b hb hx => ?_
    subst hx
    obtain ⟨_, hc⟩ := o2.kind hb
    exact kinds_ne hc h9 (by decide)
  · obtain ⟨_, c1⟩ := (hall b hb).1.kind hj
    obtain ⟨_, c2⟩ := (hk1 j hx).2
    exact kinds_ne c1 c2 (by decide)
  · subst hx
    have hq := ((hall b hb).1.fr k fun j hj hx => by
      obtain ⟨_, c1⟩ := (hall b hb).1.kind hj
      obtain ⟨_, c2⟩ := (hk1 j hx).2
      exact kinds_ne c1 c2 (by decide))
    obtain ⟨_, hc⟩ := hq.kind hj
    exact kinds_ne hc h9 (by decide)

/-! A slice of slices that is read. -/
structure SrcAt (w : World) (a : Option Addr) (c : Nat) (R : List (List Nat)) : Prop where
  len : R.length ≤ c
  most : c ≤ maxLen
  here : R = [] ∨ ∃ g, a = some ⟨g, 0, none⟩ ∧ g < w.heap.size ∧ ∀ i (h : i < R.length), ∃ p q, w.cell? ⟨g, i, none⟩ = some (.slice p R[i].length q) ∧ Sl w p q R[i]
theorem SrcAt.below {w w' : World} {a : Option Addr} {c : Nat} {R : List (List Nat)} (h : SrcAt w a c R) (k : Below w.heap.size w w') : SrcAt w' a c R :=
  ⟨h.len, h.most, by
    rcases h.here with e | ⟨g, e, hg, hc⟩
    · exact .inl e
    · exact .inr ⟨g, e, Nat.lt_of_lt_of_le hg k.size, fun i hi => by
        obtain ⟨p, q, h1, h2⟩ := hc i hi
        exact ⟨p, q, (k.cell (p := ⟨g, i, none⟩) hg).trans h1, h2.below k⟩⟩⟩
theorem Rest.src {wq wr : World} {rv : Value} {R : List Bw} (h : Rest wq wr rv R) : ∃ a c, rv = .slice a (R.map (·.l)).length c ∧ SrcAt wr a c (R.map (·.l)) := by
  obtain ⟨a, c, hv, h1, h2⟩ := h.ro.slice
  rw [List.length_map] at hv h1
  refine ⟨a, c, by rw [List.length_map]; exact hv, by rw [List.length_map]; exact h1, h2, ?_⟩
  by_cases h0 : R = []
  · exact .inl (by rw [h0]; rfl)
  · have hro := h.ro
    rw [hv] at hro
    have hl : 0 < R.length := List.length_pos_iff.2 h0
    have hro2 : Own1 36 (wq.heap.size + 1) wr (.slice a (R.map (·.v)).length c) (R.map (·.v)) := by rw [List.length_map]; exact hro
    obtain ⟨g, hg, hgl, _⟩ := hro2.cell (i := 0) (by rw [List.length_map]; exact hl)
    refine .inr ⟨g, hg, hgl, fun i hi => ?_⟩
    rw [List.length_map] at hi
    obtain ⟨g', hg', _, hc⟩ := hro2.cell (i := i) (by rw [List.length_map]; exact hi)
    rw [hg] at hg'
    cases hg'
    rw [List.getElem_map] at hc ⊢
    have hb := h.bods R[i] (List.getElem_mem hi)
    obtain ⟨p, q, hv2, hsl, _⟩ := hb.1.sl hb.2
    exact ⟨p, q, by rw [hc, hv2], hsl⟩
end Go.Proofs.YtechekkojinkmaaDoor
end

section
namespace Go.Proofs.YtechekkojinkmaaDoor
open Go.ChangeShapes Go.WideShapes Go.ChangeAt Go.RowKit Go.Joins
set_option linter.unusedVariables false

theorem built_fil (f : Fil) : Tryd.prog.built 41 [(0, .string (strOf f.name)), (1, .int .i64 f.size), (2, .agg (rowArr 32 (vOf f.dg))), (3, .int .i64 f.first)] = some (rowArr 35 (filV f)) := by kernel_rfl
theorem built_sm (x : Sm) : Tryd.prog.built 57 [(0, .int .i64 x.n), (1, .int .u32 (x.crc : Int)), (2, .agg (rowArr 32 (vOf x.dg)))] = some (rowArr 34 (smV x)) := by kernel_rfl
theorem builtS_sm (V : Nat → Value) : Tryd.prog.builtSlice 57 1 [(0, .agg (rowArr 34 V))] = some (rowArr 34 V) := by kernel_rfl
theorem builtS_by (a : Option Addr) (n c : Nat) : Tryd.prog.builtSlice 36 1 [(0, .slice a n c)] = some #[.slice a n c] := by kernel_rfl
theorem op_oneS {o : Oper} {a : Act} {w : World} {K : Act → World → Prop} {Q : Exit → Act → World → Prop} (x : Operand) (ho : o.op = .buildSlice 23 1 #[(0, x)]) (f : Sm) (hx : a.eval x = .agg (rowArr 34 (smV f)))
    (h : K (a.put o.dst (.slice (some ⟨w.heap.size, 0, none⟩) 1 1)) (w.alloc (.cells (rowArr 34 (smV f)) 57))) : o.wp Tryd.prog a w K Q := by
  have hf := builtS_sm (smV f)
  unfold Program.builtSlice at hf
  cases hie : Tryd.prog.info? 57 with
  | none => simp [hie] at hf
  | some ie =>
    simp only [hie] at hf
    cases hz : ie.zero with
    | none => simp [hz] at hf
    | some z =>
      simp only [hz] at hf
      by_cases hc : 1 * ie.size > 2 ^ 24 ∨ 1 * ie.size = 0
      · rw [if_pos hc] at hf; cases hf
      · rw [if_neg hc] at hf
        refine wp_buildSlice 23 57 1 _ ho _ ie z Tryd.underlying23 hie hz (fun h' => hc (Or.inl h')) (fun h' => hc (Or.inr h')) ?_ h
        simp only [List.map_toArray, List.map_cons, List.map_nil, hx]
        exact hf
theorem op_oneB {o : Oper} {a : Act} {w : World} {K : Act → World → Prop} {Q : Exit → Act → World → Prop} (x : Operand) (ho : o.op = .buildSlice 52 1 #[(0, x)]) (p : Option Addr) (n c : Nat) (hx : a.eval x = .slice p n c)
    (h : K (a.put o.dst (.slice (some ⟨w.heap.size, 0, none⟩) 1 1)) (w.alloc (.cells #[.slice p n c] 36))) : o.wp Tryd.prog a w K Q := by
  have hf := builtS_by p n c
  unfold Program.builtSlice at hf
  cases hie : Tryd.prog.info? 36 with
  | none => simp [hie] at hf
  | some ie =>
    simp only [hie] at hf
    cases hz : ie.zero with
    | none => simp [hz] at hf
    | some z =>
      simp only [hz] at hf
      by_cases hc : 1 * ie.size > 2 ^ 24 ∨ 1 * ie.size = 0
      · rw [if_pos hc] at hf; cases hf
      · rw [if_neg hc] at hf
        refine wp_buildSlice 52 36 1 _ ho _ ie z Tryd.underlying52 hie hz (fun h' => hc (Or.inl h')) (fun h' => hc (Or.inr h')) ?_ h
        simp only [List.map_toArray, List.map_cons, List.map_nil, hx]
        exact hf
theorem sms_single {w : World} {g : Nat} {x : Sm} (hx : SmOk x) (h : w.heap[g]? = some (.cells (rowArr 34 (smV x)) 57 (0, 0))) : Sms w (some ⟨g, 0, none⟩) 1 [x] := by
  have k : ∀ j, j < 34 → w.cell? ⟨g, j, none⟩ = some (smV x j) := fun j hj => by rw [cell_of_block h]; simp [rowArr, hj]
  refine ⟨fun y hy => by rw [List.mem_singleton.1 hy]; exact hx, Nat.le_refl _, by unfold maxLen; omega, .inr ⟨g, 0, rfl, (Array.getElem?_eq_some_iff.1 h).1, fun i hi => ?_⟩⟩
  have hi0 : i = 0 := by simp at hi; omega
  subst hi0
  show SmAt w g (0 + 0 * 34) x
  refine ⟨k 0 (by omega), k 1 (by omega), fun j hj => ?_⟩
  rw [hx.2.2.1] at hj
  have := k (2 + j) (by omega)
  rw [show 0 + 0 * 34 + 2 + j = 2 + j by omega, this]
  unfold smV
  rw [if_neg (by omega), if_neg (by omega), show 2 + j - 2 = j by omega]
  unfold vOf byteV
  rw [List.getD_eq_getElem?_getD, List.getElem?_eq_getElem (by rw [hx.2.2.1]; exact hj)]
  rfl
theorem smOf_ok {l : List Nat} (hb : IsByte l) (hl : l.length ≤ 1000000) : SmOk (smOf l) := ⟨⟨by show (-9223372036854775808 : Int) ≤ (l.length : Int); omega, by show (l.length : Int) ≤ 9223372036854775807; omega⟩, crcOf_lt l hb, dgN_len l, dgN_byte l⟩
theorem filOf_ok {L : List Inp} {s : Int} {k : Nat} (h1 : IsByte (L.getD k zInp).name) (h2 : (L.getD k zInp).name.length ≤ 30000) (h3 : (L.getD k zInp).b.length ≤ 30000) (h4 : cntOf L s k ≤ 30000) : FilOk (filOf L s k) :=
  ⟨h1, ⟨by show (-9223372036854775808 : Int) ≤ ((L.getD k zInp).b.length : Int); omega, by show ((L.getD k zInp).b.length : Int) ≤ 9223372036854775807; omega⟩, ⟨by show (-9223372036854775808 : Int) ≤ (cntOf L s k : Int); omega, by show (cntOf L s k : Int) ≤ 9223372036854775807; omega⟩, dgN_len _, dgN_byte _, by show (L.getD k zInp).name.length ≤ _; omega⟩
set_option maxRecDepth 100000 in
/-- bytes.Clone: a row of one's own. -/
theorem clone_own (a : Option Addr) (cap : Nat) (l : List Nat) (w : World) (hl : l.length ≤ 100000) (hs : Sl w a cap l) :
    Calls Tryd.prog 45 #[.slice a l.length cap] w fun e w' => ∃ sa sc, e = .returned (.slice sa l.length sc) ∧ OwnB w' (.slice sa l.length sc) l ∧ Below w.heap.size w w' := by
  cases a with
  | none =>
    obtain ⟨rfl, rfl⟩ := hs.none rfl
    have hq := eqs_no w
    have HR : Hid (OwnB w (.slice none 0 0) []) := OwnB.nil w
    clear hs
    go_enter Tryd.func45, Tryd.ntmps45
    go_wp2_with fail
    go_ret
    exact ⟨_, _, rfl, HR.out, Below.refl _ _⟩
  | some ad =>
    have hq := eqs_yes ad l.length cap w
    have HBY := Lib.hid hs.byte
    have HB : Hid (Below w.heap.size w (w.alloc (.cells #[] 5))) := (Below.refl _ _).alloc (Nat.le_refl _) _
    have HS : Hid (Sl (w.alloc (.cells #[] 5)) (some ad) cap l) := hs.below HB.out
    have HE : Hid (OwnB (w.alloc (.cells #[] 5)) (.slice (some ⟨w.heap.size, 0, none⟩) 0 0) []) := World.ownsRow_made w #[] 0 (Nat.zero_le _) (by simp) (by simp)
    have hlm := hs.lt
    have hcm : cap ≤ 9223372036854775807 := by have := hs.most; unfold maxLen at this; omega
    clear hs
    go_enter Tryd.func45, Tryd.ntmps45
    go_wp2_with (at_builtin; refine wpList_addB _ rfl _ _ rfl (.slice (some ⟨w.heap.size, 0, none⟩) 0 0) [] rfl HE.out (some ad) cap l.length l rfl rfl HS.out (by simp; omega) ?_; intro v2 w2 HR2 hg2 ho2)
    have hw2 := Below.grown HB.out hg2.out (by simp) (fun k hk => by
      have : w.heap.size = k := by simpa [Value.ownBlock] using hk
      omega)
    have HW := Lib.hid hw2
    rw [List.nil_append] at HR2
    obtain ⟨a2, c2, rfl, hsl, hob⟩ := HR2.out.sl HBY.out
    clear hg2 ho2 hsl hob hw2 HE
    go_wp2_with fail
    go_ret
    exact ⟨a2, c2, rfl, HR2.out, HW.out⟩
end Go.Proofs.YtechekkojinkmaaDoor
end
