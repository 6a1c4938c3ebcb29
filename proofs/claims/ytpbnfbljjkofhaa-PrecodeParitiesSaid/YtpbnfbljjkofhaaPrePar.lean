/-
  Package precode's Parities.
-/
import Derived.Test.YtpbnfbljjkofhaaPreC
import Derived.Test.YtpbnfbljjkofhaaPreSum
namespace Go.Proofs.Ytpbnfbljjkofhaa
open Go.ChangeShapes Go.WideShapes Go.ChangeAt Go.RowKit Go.Joins
set_option linter.unusedVariables false

theorem Keep.over {B : Nat} {a w w' : World} (h : Keep B a w) (k : Below a.heap.size w w') : Keep B a w' :=
  ⟨k.os.trans h.os, k.tape.trans h.tape, k.output.trans h.output, Nat.le_trans h.size k.size, fun i hi hb => by rw [k.block i hi]; exact h.block i hi hb⟩

/-- A cell of a grid is written, and then the bytes that it leads to. -/
theorem Grid.put {B : Nat} {a a1 w : World} {g : Nat} {ls : Rws} (h : Grid B a g ls) (k1 : Below a.heap.size a a1) {i : Nat} (hi : i < ls.length) {p : Option Addr} {c : Nat} {x : List Nat}
    (e : w.heap[g]? = (a1.setCell ⟨g, i, none⟩ (.slice p x.length c)).heap[g]?) (hk : Keep B a w) (hx : Rw B w p c x) : Grid B w g (ls.set i x) := by
  have hlt := h.lt
  obtain ⟨vs, hr, hv⟩ := h.row
  refine ⟨h.low, fun j => if j = i then .slice p x.length c else vs j, ?_, fun j hj => ?_⟩
  · rw [List.length_set]
    obtain ⟨cs, h1, h2, h3⟩ := (hr.below k1 hlt).upd i hi (.slice p x.length c)
    exact ⟨cs, by rw [e]; exact h1, h2, h3⟩
  · rw [List.length_set] at hj
    by_cases ej : j = i
    · subst ej
      exact ⟨p, c, by simp, by simpa using hx⟩
    · obtain ⟨a', c', e1, e2⟩ := hv j hj
      refine ⟨a', c', ?_, ?_⟩
      · simp only [ej, if_false, e1]
        rw [List.getElem_set_ne (Ne.symm ej)]
      · rw [List.getElem_set_ne (Ne.symm ej)]; exact e2.keep hk

def goodB (ls : Rws) (m : Nat) : Bool := ls.all fun x => decide (x.length ≤ m)
theorem goodB_iff {ls : Rws} {m : Nat} : goodB ls m = true ↔ ∀ x ∈ ls, x.length ≤ m := by simp [goodB]
/-- The parities' bytes. -/
def parSyms (ls : Rws) (m : Nat) : Rws := (parRows ls.length).map fun r => symTo ls m r ls.length
def ParPost (ls : Rws) (m : Nat) (w : World) (e : Ending) (w' : World) : Prop :=
  Below w.heap.size w w' ∧ ((goodB ls m = true ∧ ∃ g, e = .returned (.tuple #[.slice (some ⟨g, 0, none⟩) (spN ls.length + 2) (spN ls.length + 2), .int .i64 0]) ∧ Rs w'.heap.size w' (some ⟨g, 0, none⟩) (spN ls.length + 2) (parSyms ls m)) ∨ (goodB ls m = false ∧ e = .returned (.tuple #[.slice none 0 0, .int .i64 3])))

theorem symTo_pads (v : Rws) (m : Nat) (row : List Nat) : ∀ i, i ≤ v.length → symTo (pads v m) m row i = symTo v m row i
  | 0, _ => rfl
  | i + 1, hi => by
    have h1 : (pads v m).getD i [] = fillN v[i] m := by rw [getR (by rw [pads, List.length_map]; omega)]; simp [pads]
    have h2 : v.getD i [] = v[i] := getR (by omega)
    show plusN (symTo (pads v m) m row i) (fillN ((pads v m).getD i []) m) _ = plusN (symTo v m row i) (fillN (v.getD i []) m) _
    rw [symTo_pads v m row i (by omega), h1, h2]
    congr 1
    have := fillN_self (fillN v[i] m)
    rw [fillN_len] at this
    exact this

/-- What lies behind so many sources that were copied. -/
structure FullAt (w : World) (src : Rws) (m n j : Nat) (ls : Rws) (wr : World) : Prop where
  grid : Grid w.heap.size wr w.heap.size ls
  len : ls.length = n
  eq : ∀ i (h : i < ls.length) (h2 : i < src.length), i < j → ls[i] = fillN src[i] m
  short : ∀ i (h2 : i < src.length), i < j → src[i].length ≤ m
  below : Below w.heap.size w wr
theorem FullAt.start (w : World) (src : Rws) (m n : Nat) : FullAt w src m n 0 (List.replicate n []) (w.alloc (.cells (rowArr n nilV) 26)) :=
  ⟨Grid.new _ n w (Nat.le_refl _), by simp, fun i _ _ h => by omega, fun i _ h => by omega, (Below.refl _ _).alloc (Nat.le_refl _) _⟩
theorem FullAt.all {w : World} {src : Rws} {m n : Nat} {ls : Rws} {wr : World} (h : FullAt w src m n n ls wr) (hn : src.length = n) : ls = pads src m := by
  apply List.ext_getElem
  · rw [h.len, pads, List.length_map, hn]
  · intro i h1 h2
    rw [h.eq i h1 (by rw [hn, ← h.len]; exact h1) (by rw [← h.len]; exact h1)]; simp [pads]
theorem FullAt.next {w : World} {src : Rws} {m n j : Nat} {ls : Rws} {wr a1 w' : World} (h : FullAt w src m n j ls wr) (hj : j < src.length) (hn : src.length = n) (hs : src[j].length ≤ m) (hb : IsByte src[j]) (hm : m ≤ 1000000)
    (k1 : Below wr.heap.size wr a1) (e : w'.heap[w.heap.size]? = (a1.setCell ⟨w.heap.size, j, none⟩ (.slice (some ⟨wr.heap.size, 0, none⟩) m m)).heap[w.heap.size]?) (hk : Keep w.heap.size wr w')
    (hg : w'.heap[wr.heap.size]? = some (.cells (rowArr m (vOf (fillN src[j] m))) 5 (0, 0))) : FullAt w src m n (j + 1) (ls.set j (fillN src[j] m)) w' := by
  have hjl : j < ls.length := by rw [h.len, ← hn]; exact hj
  have hrw : Rw w.heap.size w' (some ⟨wr.heap.size, 0, none⟩) m (fillN src[j] m) := by
    refine ⟨(Row.of_whole hg).sl (fillN_len _ _) (fillN_byte hb m) (by unfold maxLen; omega), fun _ p hp => ?_⟩
    cases hp
    exact .inr ⟨_, _, hg⟩
  refine ⟨?_, by rw [List.length_set]; exact h.len, fun i h1 h2 hi => ?_, fun i h2 hi => ?_, h.below.trans (hk.below h.below.size)⟩
  · refine h.grid.put k1 hjl ?_ hk hrw
    rw [fillN_len]; exact e
  · by_cases ei : i = j
    · subst ei; simp
    · rw [List.getElem_set_ne (Ne.symm ei)]; exact h.eq i (by simpa using h1) h2 (by omega)
  · by_cases ei : i = j
    · subst ei; exact hs
    · exact h.short i h2 (by omega)

theorem grid_new_heap (w : World) (o : Obj) (p : Addr) (v : Value) (h : p.block ≠ w.heap.size) : ((w.alloc o).setCell p v).heap[w.heap.size]? = (w.alloc o).heap[w.heap.size]? :=
  Below.heap_setCell _ _ _ _ (Ne.symm h)

set_option maxRecDepth 100000 in
set_option maxHeartbeats 2000000 in
theorem parities_any (a : Option Addr) (cap : Nat) (src : Rws) (m : Nat) (w : World) (hs : Rs w.heap.size w a cap src) (h1 : 1 ≤ src.length) (h64 : src.length ≤ 64) (hm1 : 1 ≤ m) (hm2 : m ≤ 256) :
    Calls Try.prog 10 #[.slice a src.length cap, .int .i64 (m : Int)] w (ParPost src m w) := by
  have HS := Lib.hid hs
  have HBY := Lib.hid hs.byte
  obtain ⟨n, hn⟩ : ∃ n, src.length = n := ⟨_, rfl⟩
  have HN := Lib.hid hn
  rw [hn] at h1 h64 ⊢
  have HROWS := Lib.hid (rows_pre n h1 h64)
  have HPL := Lib.hid (parRows_len n)
  have hsb := spN_bound h64
  have HE : Hid (∀ g w w', Below w.heap.size w w' → goodB src m = true → Rs w'.heap.size w' (some ⟨g, 0, none⟩) (spN n + 2) ((parRows n).map fun r => symTo src m r n) → ParPost src m w (.returned (.tuple #[.slice (some ⟨g, 0, none⟩) (spN n + 2) (spN n + 2), .int .i64 0])) w') := fun g w w' hb hg hr => by
    refine ⟨hb, .inl ⟨hg, g, ?_, ?_⟩⟩
    · rw [hn]
    · unfold parSyms; rw [hn]; exact hr
  have HRB : Hid (∀ r ∈ parRows n, r.length = n) := fun r hr => by
    obtain ⟨j, _, rfl⟩ := List.mem_map.1 hr
    exact parRow_len n j
  generalize parRows n = P at *
  obtain ⟨N, hN⟩ : ∃ N, N = spN n + 2 := ⟨_, rfl⟩
  rw [← hN] at HE HROWS HPL
  have hNb : N ≤ 11 := by omega
  clear hN hsb
  have hmk := make_grid n (by omega) w
  have HF0 := Lib.hid (FullAt.start w src m n)
  have HMK : Hid (∀ w, (Instr.makeSlice 26 (.int .i64 (m : Int)) (.int .i64 (m : Int))).run Try.prog w = .ok (.slice (some ⟨w.heap.size, 0, none⟩) m m) (w.alloc (.cells (rowArr m zV) 5))) := make_row m (by omega)
  have d1 : ¬ ((m : Int) < 1) := by omega
  have d2 : ¬ ((256 : Int) < (m : Int)) := by omega
  have d3 : ¬ ((n : Int) < 1) := by omega
  have d4 : ¬ ((64 : Int) < (n : Int)) := by omega
  clear hs hn
  go_enter Try.func10, Try.ntmps10
  go_wp2_with fail
  clear hmk
  go_loopw [31] (fun i wr => ∃ (j : Nat) (ls : Rws), j ≤ n ∧ i = .int .i64 j ∧ Hid (FullAt w src m n j ls wr)) (fun i _ => n - (intOf i).toNat)
  case atStart => exact ⟨0, _, by omega, rfl, HF0⟩
  case round =>
    obtain ⟨j, ls, hj, rfl, HF⟩ := hrel
    by_cases hlt : j < n
    · have hjs : j < src.length := by rw [HN.out]; exact hlt
      have HRS := Lib.hid (HS.out.keep (Nat.le_refl _) (Keep.of_below HF.out.below))
      obtain ⟨b, off, rfl, hb, hrr⟩ := HRS.out.some hjs
      obtain ⟨ai, ci, hck, hrw⟩ := hrr j hjs
      have HRW := Lib.hid hrw
      have i1 : (0 : Int) ≤ (j : Int) := by omega
      have i2 : (j : Int) < (n : Int) := by omega
      by_cases hlong : m < src[j].length
      · have HBAD : Hid (goodB src m = false) := by
          show _ = _
          rw [Bool.eq_false_iff]
          intro h
          have := goodB_iff.1 h _ (List.getElem_mem hjs)
          omega
        have HBL := Lib.hid HF.out.below
        generalize src[j] = x at *
        have dl : (m : Int) < (x.length : Int) := by omega
        clear hrr hrw
        go_wp2_with fail
        go_ret2
        exact ⟨HBL.out, .inr ⟨HBAD.out, rfl⟩⟩
      · have dl : ¬ (m : Int) < (src[j].length : Int) := by omega
        have hmk := HMK.out wr
        have HNX : Hid (∀ (a1 w' : World), Below wr.heap.size wr a1 → w'.heap[w.heap.size]? = (a1.setCell ⟨w.heap.size, j, none⟩ (.slice (some ⟨wr.heap.size, 0, none⟩) m m)).heap[w.heap.size]? → Keep w.heap.size wr w' → w'.heap[wr.heap.size]? = some (.cells (rowArr m (vOf (fillN src[j] m))) 5 (0, 0)) → ∃ ls', FullAt w src m n (j + 1) ls' w') := fun a1 w' k1 e hk hg => ⟨_, HF.out.next hjs HN.out (by omega) (HBY.out _ (List.getElem_mem hjs)) (by omega) k1 e hk hg⟩
        generalize src[j] = x at *
        have hjl : j < ls.length := by rw [HF.out.len]; exact hlt
        have hb1 : Below wr.heap.size wr (wr.alloc (.cells (rowArr m zV) 5)) := (Below.refl _ _).alloc (Nat.le_refl _) _
        have hg1 := HF.out.grid.below hb1
        have HLT := Lib.hid HF.out.grid.lt
        have HLOW := Lib.hid HF.out.below.size
        obtain ⟨ca, cc, hcell, _⟩ := hg1.cell hjl
        have hlo := hg1.loose j
        have HK1 : Hid (Keep w.heap.size wr ((wr.alloc (.cells (rowArr m zV) 5)).setCell ⟨w.heap.size, j, none⟩ (.slice (some ⟨wr.heap.size, 0, none⟩) m m))) := (Keep.of_below hb1).set (p := ⟨w.heap.size, j, none⟩) hg1.other _
        have HB1 := Lib.hid hb1
        have HG : Hid (((wr.alloc (.cells (rowArr m zV) 5)).setCell ⟨w.heap.size, j, none⟩ (.slice (some ⟨wr.heap.size, 0, none⟩) m m)).heap[wr.heap.size]? = some (.cells (rowArr m zV).toList.toArray 5 (0, 0))) := by
          show _ = _
          rw [grid_new_heap _ _ _ _ (by have := HLT.out; show w.heap.size ≠ wr.heap.size; omega), Array.toArray_toList]; exact heap_alloc_new wr _
        have HCL : Hid (((x.take m).map byteV).length = Nat.min x.length m) := by show _ = min x.length m; simp; omega
        have HPOS : Hid (0 < ((x.take m).map byteV).length → (some (⟨wr.heap.size, 0, none⟩ : Addr)) = some ⟨wr.heap.size, 0, none⟩ ∧ ∃ ad, ai = some ad ∧ ∀ j' v, ((x.take m).map byteV)[j']? = some v → ((wr.alloc (.cells (rowArr m zV) 5)).setCell ⟨w.heap.size, j, none⟩ (.slice (some ⟨wr.heap.size, 0, none⟩) m m)).cell? (ad.add j') = some v) :=
          fun h0 => ⟨rfl, src_cells (HRW.out.keep HK1.out).sl m h0⟩
        have HFIT : Hid (0 + ((x.take m).map byteV).length ≤ (rowArr m zV).toList.length) := by show _ ≤ _; simp [rowArr]; omega
        have H1C : Hid (∀ v ∈ (x.take m).map byteV, v.oneCell' = true) := bytes_one
        have HR := Lib.hid (fill_row x m)
        have hxl := HRW.out.sl.lt
        generalize (x.take m).map byteV = cs at *
        clear hrr hrw hb1 hg1
        obtain ⟨W1, hW1⟩ : ∃ W1, W1 = (wr.alloc (.cells (rowArr m zV) 5)).setCell ⟨w.heap.size, j, none⟩ (.slice (some ⟨wr.heap.size, 0, none⟩) m m) := ⟨_, rfl⟩
        go_wp2_with ((with_reducible refine wpList_copy_splice rfl (.tmp 48) (.tmp 49) 26 26 rfl 5 Try.underlying26 (by kernel_rfl) (some ⟨wr.heap.size, 0, none⟩) ai m m x.length ci rfl rfl wr.heap.size 0 (rowArr m zV).toList 5 HG.out cs HCL.out HPOS.out HFIT.out H1C.out wr.heap.size _ (Below.refl _ _) (Nat.le_refl _) ?_); intro w2 HW2 b2)
        obtain ⟨ls', hf'⟩ := HNX.out _ w2 HB1.out (b2.block _ HLT.out) (HK1.out.over b2) (by rw [HW2.out, HR.out])
        have HF2 := Lib.hid hf'
        clear hf' HW2 b2 HNX HG HPOS HK1 HB1 HFIT H1C HR HCL hmk hcell hlo hck
        go_roundw
        case rel => exact ⟨j + 1, ls', by omega, by go_num, HF2⟩
        case measure => simp [intOf]; omega
    · obtain rfl : n = j := by omega
      have hfe := HF.out.all HN.out
      subst hfe
      have HGOOD : Hid (goodB src m = true) := goodB_iff.2 fun x hx => by
        obtain ⟨i, hi, rfl⟩ := List.getElem_of_mem hx
        exact HF.out.short i hi (by rw [← HN.out]; exact hi)
      have HFB := Lib.hid HF.out.below
      have HFR := Lib.hid (HF.out.grid.rs (by rw [HF.out.len]; omega))
      clear HF
      obtain ⟨wo, hwo⟩ : ∃ wo, wo = wr := ⟨_, rfl⟩
      rw [← hwo] at HFB HFR
      have HSUM : Hid (∀ wq, Below wo.heap.size wo wq → ∀ ra rc row, row.length = n → Sl wq ra rc row → Calls Try.prog 16 #[.slice (some ⟨w.heap.size, 0, none⟩) n n, .slice ra n rc, .int .i64 (m : Int)] wq fun e w' => ∃ g, e = .returned (.slice (some ⟨g, 0, none⟩) m m) ∧ Hid (Rw wo.heap.size w' (some ⟨g, 0, none⟩) m (symTo src m row n)) ∧ Below wq.heap.size wq w') := fun wq hq ra rc row hrl hsl => by
        have hpl : (pads src m).length = n := by rw [pads, List.length_map]; exact HN.out
        have := sum_any wo.heap.size (some ⟨w.heap.size, 0, none⟩) n (pads src m) m ra rc row wq hq.size (by have := HFR.out.keep (Nat.le_refl _) (Keep.of_below hq); rw [hpl] at this; exact this) (by rw [hpl, hrl]; exact Nat.le_refl _) hsl (by omega) (fun x hx => by
          obtain ⟨y, _, rfl⟩ := List.mem_map.1 hx
          exact fillN_len _ _)
        rw [hpl, hrl] at this
        refine this.mono ?_
        rintro e w' ⟨g, h1, h2, h3⟩
        rw [hpl, symTo_pads src m row n (by rw [HN.out]; exact Nat.le_refl _)] at h2
        exact ⟨g, h1, h2.up _, h3⟩
      go_wp2_with fail
      rw [← hwo]
      clear hwo wr
      refine (HROWS.out wo).mono ?_
      rintro e w3 ⟨gp, rfl, hg3, hb3⟩
      have HG3 := Lib.hid hg3
      have HB3 := Lib.hid hb3
      clear hg3 hb3
      go_wp2_with fail
      go_loopw [57] (fun i wq => ∃ (j : Nat) (ls : Rws), j ≤ N ∧ i = .int .i64 j ∧ Hid (Grid wo.heap.size wq gp ls) ∧ Hid (ls.length = N) ∧ Hid (∀ i (h : i < ls.length) (h' : i < P.length), i < j → ls[i] = symTo src m P[i] n) ∧ Hid (∀ i (h : i < ls.length) (h' : i < P.length), j ≤ i → ls[i] = P[i]) ∧ Hid (Below wo.heap.size wo wq)) (fun i _ => N - (intOf i).toNat)
      case atStart => exact ⟨0, P, by omega, rfl, HG3, HPL, fun i _ _ h => by omega, fun i _ _ _ => rfl, HB3⟩
      case round =>
        obtain ⟨j, ls, hj, rfl, HG, HL, HT1, HT2, HB⟩ := hrel
        by_cases hlt : j < N
        · have hjl : j < ls.length := by rw [HL.out]; exact hlt
          have hjP : j < P.length := by rw [HPL.out]; exact hlt
          have HEJ := Lib.hid (HT2.out j hjl hjP (Nat.le_refl _))
          have HPJ := Lib.hid (HRB.out _ (List.getElem_mem hjP))
          obtain ⟨ca, cc, hcell, hrw⟩ := HG.out.cell hjl
          rw [HEJ.out] at hcell hrw
          have HC := Lib.hid (HSUM.out _ HB.out ca cc _ HPJ.out hrw.sl)
          rw [HPJ.out] at hcell
          have i1 : (0 : Int) ≤ (j : Int) := by omega
          have i2 : (j : Int) < (N : Int) := by omega
          clear hrw
          go_wp2_with fail
          refine HC.out.mono ?_
          rintro e w4 ⟨g4, rfl, HR4, hb4⟩
          have hg4 := HG.out.below hb4
          obtain ⟨ca4, cc4, hcell4, _⟩ := hg4.cell hjl
          have hlo4 := hg4.loose j
          have hgs := hg4.set hjl HR4.out
          have hsl : (symTo src m P[j] n).length = m := (symTo_ok HBY.out n (by rw [HN.out]; exact Nat.le_refl _)).1
          rw [hsl] at hgs
          have HGS := Lib.hid hgs
          have HBS : Hid (Below wo.heap.size wo (w4.setCell ⟨gp, j, none⟩ (.slice (some ⟨g4, 0, none⟩) m m))) := (HB.out.trans (hb4.mono HB.out.size)).setCell hg4.low _
          have HS1 : Hid (∀ i (h : i < (ls.set j (symTo src m P[j] n)).length) (h' : i < P.length), i < j + 1 → (ls.set j (symTo src m P[j] n))[i] = symTo src m P[i] n) := fun i h h' hi => by
            by_cases e : i = j
            · subst e; simp
            · rw [List.getElem_set_ne (Ne.symm e)]; exact HT1.out i (by simpa using h) h' (by omega)
          have HS2 : Hid (∀ i (h : i < (ls.set j (symTo src m P[j] n)).length) (h' : i < P.length), j + 1 ≤ i → (ls.set j (symTo src m P[j] n))[i] = P[i]) := fun i h h' hi => by
            rw [List.getElem_set_ne (by omega)]; exact HT2.out i (by simpa using h) h' (by omega)
          have HL2 : Hid ((ls.set j (symTo src m P[j] n)).length = N) := by show _ = _; rw [List.length_set]; exact HL.out
          generalize ls.set j (symTo src m P[j] n) = ls2 at *
          clear hgs hg4 hb4 hsl HC
          go_wp2_with fail
          go_roundw
          case rel => exact ⟨j + 1, ls2, by omega, by go_num, HGS, HL2, HS1, HS2, HBS⟩
          case measure => simp [intOf]; omega
        · obtain rfl : N = j := by omega
          have HLE : Hid (ls = P.map fun r => symTo src m r n) := by
            show _ = _
            apply List.ext_getElem
            · rw [HL.out, List.length_map, HPL.out]
            · intro i h1 h2
              have h3 : i < P.length := by simpa using h2
              rw [HT1.out i h1 h3 (by rw [← HPL.out]; exact h3)]; simp
          go_wp2_with fail
          go_ret2
          refine HE.out gp w wr (HFB.out.trans (HB.out.mono HFB.out.size)) HGOOD.out ?_
          have := HG.out.rs (by rw [HL.out]; omega)
          rw [HL.out, HLE.out] at this
          exact this
end Go.Proofs.Ytpbnfbljjkofhaa
