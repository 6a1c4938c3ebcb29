/-
  Package dense's clearAbove, walked.
-/
import Derived.Test.YtiglmoggpjgmbaaEchW
namespace Go.Proofs.Ytiglmoggpjgmbaa
open Go.ChangeShapes Go.WideShapes Go.ChangeAt Go.RowKit Go.Joins
set_option linter.unusedVariables false

/-- The steps of the first i are cleared. -/
structure CSt (N : Nat) (W0 : World) (ys : List (LV × St)) (i : Nat) (w : World) (B : Nat) (cur : Array Value) (xs : List LV) : Prop where
  len : xs.length = ys.length
  sb : SB w B cur xs
  fr : Fr (fun k => k = B) W0 w
  done : ∀ j (h1 : j < xs.length), j < i → LineAt w xs[j] (clearL N (ys.map (·.2)) j)
  todo : ∀ j (h1 : j < xs.length) (h2 : j < ys.length), i ≤ j → xs[j] = ys[j].1
  ld : ∀ j (h1 : j < xs.length) (h2 : j < ys.length), xs[j].ld = ys[j].1.ld

theorem SB.ne {w : World} {B b : Nat} {cur : Array Value} {xs : List LV} {m : List Nat} (h : SB w B cur xs) (hb : BlkB w b m) : b ≠ B := fun e => by
  subst e
  have h1 : w.heap[b]? = _ := hb
  rw [h.blk] at h1
  injection h1 with h1
  injection h1 with _ h1 _
  cases h1
/-- One line's cells are written. -/
theorem SB.put {w w' : World} {B : Nat} {cur cur' : Array Value} {xs : List LV} {x : LV} {i c : Nat} {v : Value} (h : SB w B cur xs) (hi : i < xs.length) (hc : c < 3) (he : cur' = cur.setIfInBounds (i * 3 + c) v) (hx : Cells3 w' B (i * 3) 48 cur' x) : SB w' B cur' (xs.set i x) := by
  refine ⟨hx.blk, fun j hj => ?_⟩
  rw [List.length_set] at hj
  by_cases e : i = j
  · subst e; rw [List.getElem_set_self]; exact hx
  · rw [List.getElem_set_ne e]
    obtain ⟨c0, c1, c2⟩ := (h.cells j hj)
    subst he
    refine ⟨hx.blk, ?_, ?_, ?_⟩
    · rw [Array.getElem?_setIfInBounds_ne (by omega)]; assumption
    · rw [Array.getElem?_setIfInBounds_ne (by omega)]; assumption
    · rw [Array.getElem?_setIfInBounds_ne (by omega)]; assumption
theorem CSt.start {N : Nat} {W0 : World} {ys : List (LV × St)} {B : Nat} {cur : Array Value} (h : SB W0 B cur (ys.map (·.1))) : CSt N W0 ys 0 W0 B cur (ys.map (·.1)) :=
  ⟨by simp, h, Fr.refl _ _, fun j _ hj => by omega, fun j h1 h2 _ => by simp, fun j h1 h2 => by simp⟩

def ClearPost (N : Nat) (W0 : World) (ys : List (LV × St)) (B : Nat) (e : Ending) (w' : World) : Prop :=
  ∃ cur xs, e = .returned (.tuple #[]) ∧ CSt N W0 ys ys.length w' B cur xs

def LV.rowB (x : LV) (r n : Nat) : LV := ⟨r, n, x.gb, x.gl, x.ld⟩
theorem Cells3.setRow {w : World} {B o : Nat} {T : TypeId} {cs : Array Value} {x : LV} (h : Cells3 w B o T cs x) (r n : Nat) :
    Cells3 (w.setCell ⟨B, o, none⟩ (.slice (some ⟨r, 0, none⟩) n n)) B o T (cs.setIfInBounds o (.slice (some ⟨r, 0, none⟩) n n)) (x.rowB r n) := by
  have h1 := (Array.getElem?_eq_some_iff.1 h.c0).1
  refine ⟨block_setCell h.blk _, ?_, ?_, ?_⟩
  · simp [h1, LV.rowB]
  · rw [Array.getElem?_setIfInBounds_ne (by omega)]; exact h.c1
  · rw [Array.getElem?_setIfInBounds_ne (by omega)]; exact h.c2

/-- What another frame turns is new, or of the first's. -/
theorem Fr.trans' {X Y : Nat → Prop} {a b c : World} (h : Fr X a b) (k : Fr Y b c) (hs : ∀ n, n < a.heap.size → Y n → X n) : Fr X a c :=
  ⟨k.os.trans h.os, k.tape.trans h.tape, k.output.trans h.output, Nat.le_trans h.size k.size, fun n hn hx => by
    rw [k.block n (Nat.lt_of_lt_of_le hn h.size) fun hy => hx (hs n hn hy)]
    exact h.block n hn hx⟩
/-- Line i is being cleared: t of those behind it are done; w1 is how it began, with xs0. -/
structure CWork (N : Nat) (w1 : World) (ys : List (LV × St)) (xs0 : List LV) (i t : Nat) (y : LV × St) (rn : Nat) (w : World) (B : Nat) (cur : Array Value) (x : LV) : Prop where
  sb : SB w B cur (xs0.set i x)
  fr : Fr (fun k => k = B) w1 w
  line : LineAt w x (runAll ⟨fillN y.2.1.row N, y.2.1.right⟩ (((ys.map (·.2)).drop (i + 1)).take t))
  rb : x.rb = rn
  gb : x.gb ≠ rn
  ld : x.ld = y.1.ld
theorem CSt.step {N : Nat} {W0 w1 w : World} {ys : List (LV × St)} {xs0 : List LV} {i B rn : Nat} {cur0 cur : Array Value} {x : LV} {y : LV × St} (h : CSt N W0 ys i w1 B cur0 xs0) (hi : i < ys.length) (hy : y = ys[i]) {t : Nat} (ht : ys.length ≤ i + 1 + t)
    (k : CWork N w1 ys xs0 i t y rn w B cur x) : CSt N W0 ys (i + 1) w B cur (xs0.set i x) := by
  subst hy
  refine ⟨by rw [List.length_set]; exact h.len, k.sb, h.fr.trans k.fr, fun j h1 h2 => ?_, fun j h1 h2 h3 => ?_, fun j h1 h2 => ?_⟩
  · rw [List.length_set] at h1
    by_cases e : i = j
    · subst e
      rw [List.getElem_set_self]
      have := k.line
      rw [List.take_of_length_le (by rw [List.length_drop, List.length_map]; omega)] at this
      unfold clearL
      rw [List.getElem?_eq_getElem (by rw [List.length_map]; exact hi), List.getElem_map]
      exact this
    · rw [List.getElem_set_ne e]
      have := h.done j h1 (by omega)
      exact this.fr k.fr (h.sb.ne this.row) (h.sb.ne this.right)
  · rw [List.length_set] at h1
    rw [List.getElem_set_ne (by omega)]
    exact h.todo j h1 h2 (by omega)
  · rw [List.length_set] at h1
    by_cases e : i = j
    · subst e; rw [List.getElem_set_self]; exact k.ld
    · rw [List.getElem_set_ne e]; exact h.ld j h1 h2

def ClrPost (N : Nat) (W0 : World) (ys : List (LV × St)) (a : Option Addr) (e : Ending) (w' : World) : Prop := (ys = [] ∧ e = .returned (.tuple #[]) ∧ W0 = w') ∨ ∃ B, a = some ⟨B, 0, none⟩ ∧ ClearPost N W0 ys B e w'

set_option maxRecDepth 100000 in
set_option maxHeartbeats 4000000 in
theorem clear_walk (M N : Nat) (W0 : World) (ys : List (LV × St)) (a : Option Addr) (cap : Nat) (hLS : LS W0 a (ys.map (·.1))) (hls : ∀ y ∈ ys, LineAt W0 y.1 y.2.1 ∧ y.1.ld = (y.2.2 : Int)) (okS : ∀ y ∈ ys, OkS M N y.2) (hn : ys.length ≤ 1000) (hc : ys.length ≤ cap) (hcap : cap ≤ maxLen) (hM : M ≤ 1000) (hN : N ≤ 1000) :
    Calls Try.prog 20 #[.slice a ys.length cap, .int .i64 (N : Int)] W0 (ClrPost N W0 ys a) := by
  have hcap' : cap ≤ 9223372036854775807 := by unfold maxLen at hcap; omega
  have mixed : Try.prog.follows .mixedOrders = true := by kernel_rfl
  by_cases hys : ys = []
  · subst hys
    have hz : (([] : List (LV × St)).length : Int) = 0 := rfl
    rw [List.length_nil]
    clear hLS hls okS hn hc hz
    go_enter Try.func20, Try.ntmps20
    go_wp2_with fail
    go_loopg [9] 1 (fun gg v9 wr => v9 = .int .i64 0 ∧ W0 = wr)
    case atStart => exact ⟨rfl, rfl⟩
    case round =>
      obtain ⟨rfl, rfl⟩ := hrel
      go_wp2_with fail
      go_end0
      exact .inl ⟨rfl, rfl, rfl⟩
  · obtain ⟨B, cur, rfl, hSB⟩ := hLS.some (k := 0) (by rw [List.length_map]; exact List.length_pos_iff.2 hys)
    have HLS := Lib.hid hls
    have HOS := Lib.hid okS
    have HSB := Lib.hid hSB
    have C0 := Lib.hid (CSt.start (N := N) hSB)
    have hypos : 0 < ys.length := List.length_pos_iff.2 hys
    clear hLS hls okS hSB hys hcap
    go_enter Try.func20, Try.ntmps20
    go_wp2_with fail
    go_loopg [9] (ys.length) (fun gg v9 wr => ∃ (i : Nat) (cur : Array Value) (xs : List LV), i ≤ ys.length ∧ ys.length - i ≤ gg ∧ v9 = .int .i64 i ∧ Hid (CSt N W0 ys i wr B cur xs))
    case atStart => exact ⟨0, cur, _, by omega, by omega, rfl, C0⟩
    case round =>
      clear C0
      obtain ⟨i, cur0, xs0, hi, hgg, rfl, HC⟩ := hrel
      by_cases hlt : i < ys.length
      · have hltz : (i : Int) < (ys.length : Int) := by omega
        obtain ⟨wo, rfl⟩ : ∃ wo, wo = wr := ⟨_, rfl⟩
        have hlx : i < xs0.length := by rw [HC.out.len]; exact hlt
        obtain ⟨y, hy⟩ : ∃ y, y = ys[i] := ⟨_, rfl⟩
        have hx0 : xs0[i] = y.1 := by rw [hy]; exact HC.out.todo i hlx hlt (Nat.le_refl _)
        have hcy := HC.out.sb.cells i hlx
        rw [hx0] at hcy
        have hlw : ∀ z ∈ ys, LineAt wo z.1 z.2.1 := fun z hz => ((HLS.out z hz).1.fr HC.out.fr (HSB.out.ne (HLS.out z hz).1.row) (HSB.out.ne (HLS.out z hz).1.right))
        have hly : LineAt wo y.1 y.2.1 := by rw [hy]; exact hlw _ (List.getElem_mem hlt)
        have hosy : OkS M N y.2 := by rw [hy]; exact HOS.out _ (List.getElem_mem hlt)
        obtain ⟨k0, k1, k2⟩ := hcy.cell
        have hf0 := hcy.loose (i * 3)
        have hrl := hly.rl
        have hfill := filled_any (some ⟨y.1.rb, 0, none⟩) y.1.rl y.2.1.row N wo (by omega) (by
          have := hly.row.sl hosy.ok.row (by have := hosy.len; omega)
          rwa [← hrl] at this)
        rw [← hrl] at hfill
        have HLW := Lib.hid hlw
        have HCY := Lib.hid hcy
        have HLY := Lib.hid hly
        have HOY := Lib.hid hosy
        have HY := Lib.hid hy
        have hHlt : B < wo.heap.size := hcy.lt
        obtain ⟨rn, hrn⟩ : ∃ rn, rn = wo.heap.size := ⟨_, rfl⟩
        have HRN := Lib.hid hrn
        rw [← hrn] at hfill
        clear hx0 hcy hlw hly hosy hrl hy hrn
        go_wp2_with fail
        (with_reducible refine hfill.mono ?_)
        rintro e w2 ⟨rfl, n2⟩
        have hb2 := n2.below
        have hnew : BlkB w2 rn (fillN y.2.1.row N) := by
          have := BlkB.of_new n2 (fillN_len _ _)
          rwa [← HRN.out] at this
        have q0 := (hb2.cell (p := ⟨B, i * 3, none⟩) hHlt).trans k0
        have HC2 := Lib.hid (HCY.out.below hb2)
        have g0 := HC2.out.loose (i * 3)
        have HW : Hid (∃ cur, CWork N wo ys xs0 i 0 y rn (w2.setCell ⟨B, i * 3, none⟩ (.slice (some ⟨rn, 0, none⟩) N N)) B cur (y.1.rowB rn N)) := by
          have hge : wo.heap.size ≤ rn := by rw [HRN.out]; exact Nat.le_refl _
          have hneB : rn ≠ B := by omega
          refine ⟨_, (HC.out.sb.below hb2).put (c := 0) hlx (by omega) rfl (HC2.out.setRow rn N), (Fr.set (X := fun k => k = B) (Fr.of_below hb2) (p := ⟨B, i * 3, none⟩) (fun _ => rfl) _), ?_, rfl, ?_, rfl⟩
          · have hl2 := HLY.out.below hb2
            refine ⟨?_, ?_, ?_, hl2.gl⟩
            · exact hnew.set (p := ⟨B, i * 3, none⟩) hneB _
            · show N = (fillN _ _).length; rw [fillN_len]
            · exact hl2.right.set (p := ⟨B, i * 3, none⟩) (HC.out.sb.ne HLY.out.right) _
          · show y.1.gb ≠ rn
            have := HLY.out.right.lt; omega
        clear hfill n2 hb2 hnew k0 k1 k2 hf0 HC2
        go_upto_region 4 with fail
        generalize w2.setCell ⟨B, i * 3, none⟩ (.slice (some ⟨rn, 0, none⟩) N N) = w3 at *
        clear q0 g0
        have i1 : (0 : Int) ≤ (i : Int) + 1 := by omega
        have i2 : (i : Int) + 1 ≤ (ys.length : Int) := by omega
        have hfin : Hid (∀ t (w : World) cur x, ys.length ≤ i + 1 + t → CWork N wo ys xs0 i t y rn w B cur x → CSt N W0 ys (i + 1) w B cur (xs0.set i x)) := fun t w cur x ht k => HC.out.step hlt HY.out ht k
        obtain ⟨r, hr⟩ : ∃ r, ys.length - (i + 1) = r := ⟨_, rfl⟩
        have HRR : Hid (i + 1 + r = ys.length) := by show _ = _; omega
        have hirl : i + 1 + r ≤ ys.length := by omega
        by_cases hce : cap = i + 1
        · have HF : Hid (∃ cur xs, CSt N W0 ys (i + 1) w3 B cur xs) := by
            obtain ⟨cur, hw⟩ := HW.out
            exact ⟨cur, _, hfin.out 0 _ _ _ (by omega) hw⟩
          have hr0 : r = 0 := by omega
          subst hr0
          clear HW hfin HRR hirl
          go_wp2_with fail
          go_loopg [28] 1 (fun gg v28 wr => v28 = .int .i64 0 ∧ w3 = wr)
          case atStart => exact ⟨rfl, rfl⟩
          case round =>
            obtain ⟨rfl, rfl⟩ := hrel
            go_wp2_with fail
            go_roundg (ys.length - (i + 1))
            case measure => omega
            case rel =>
              obtain ⟨cur, xs, h⟩ := HF.out
              exact ⟨i + 1, cur, xs, hlt, Nat.le_refl _, by first | rfl | go_num | (congr 1; omega), h⟩
        · have i3 : ¬ cap = i + 1 := hce
          have hrz : r ≤ 1000 := by omega
          have HYR : Hid (ys.length = i + 1 + r) := HRR.out.symm
          go_wp2_with fail
          go_loopg [28] r (fun gg v28 wi => ∃ (t : Nat) (x : LV) (cur : Array Value), t ≤ r ∧ r - t ≤ gg ∧ v28 = .int .i64 t ∧ Hid (CWork N wo ys xs0 i t y rn wi B cur x))
          case atStart =>
            obtain ⟨cur, hw⟩ := HW.out
            exact ⟨0, _, cur, by omega, by omega, rfl, hw⟩
          case round =>
            clear HW
            obtain ⟨t, x, cur2, ht, hgt, rfl, HK⟩ := hrel
            by_cases hltr : t < r
            · have hltrz : (t : Int) < (r : Int) := by omega
              obtain ⟨j, hj⟩ : ∃ j, j = i + 1 + t := ⟨_, rfl⟩
              have hjl : j < ys.length := by omega
              have hji : i ≠ j := by omega
              obtain ⟨z, hz⟩ : ∃ z, z = ys[j] := ⟨_, rfl⟩
              have hzm : z ∈ ys := by rw [hz]; exact List.getElem_mem hjl
              have hjx : j < (xs0.set i x).length := by rw [List.length_set, HC.out.len]; exact hjl
              have hcz := HK.out.sb.cells j hjx
              have hej : (xs0.set i x)[j] = z.1 := by
                rw [List.getElem_set_ne hji, hz]
                exact HC.out.todo j (by rw [HC.out.len]; exact hjl) hjl (by omega)
              rw [hej] at hcz
              obtain ⟨s0, s1, s2⟩ := hcz.cell
              rw [show j * 3 = (i + 1) * 3 + t * 3 by omega] at s0 s1 s2
              have hcx := HK.out.sb.cells i (by rw [List.length_set]; exact hlx)
              rw [List.getElem_set_self] at hcx
              have hos : OkS M N z.2 := HOS.out z hzm
              have hzl := (HLW.out z hzm)
              have hzl2 : LineAt wr z.1 z.2.1 := hzl.fr HK.out.fr (HC.out.sb.ne hzl.row) (HC.out.sb.ne hzl.right)
              have hfo : OkL M ⟨fillN y.2.1.row N, y.2.1.right⟩ := ⟨fillN_byte HOY.out.ok.row N, HOY.out.ok.right, HOY.out.ok.len⟩
              have hok := runAll_len hfo (t := ((ys.map (·.2)).drop (i + 1)).take t) (fun s hs => by
                obtain ⟨q, hq, rfl⟩ := List.mem_map.1 (List.mem_of_mem_drop (List.mem_of_mem_take hs))
                exact HOS.out q hq)
              rw [show (Ln.mk (fillN y.2.1.row N) y.2.1.right).row.length = N from fillN_len _ _] at hok
              have hnext : runAll ⟨fillN y.2.1.row N, y.2.1.right⟩ (((ys.map (·.2)).drop (i + 1)).take (t + 1)) = cancelN (runAll ⟨fillN y.2.1.row N, y.2.1.right⟩ (((ys.map (·.2)).drop (i + 1)).take t)) z.2 := by
                rw [take_snoc' (by rw [List.length_drop, List.length_map]; omega)]
                rw [runAll_snoc]
                congr 1
                simp only [List.getElem_drop, List.getElem_map, hz, hj]
              have HNX := Lib.hid hnext
              have hld : z.1.ld = (z.2.2 : Int) := (HLS.out z hzm).2
              have hxr := HK.out.rb
              have hxg := HK.out.gb
              have hzlt : z.1.gb < wo.heap.size := hzl.right.lt
              have hrn2 : wo.heap.size ≤ rn := by rw [HRN.out]; exact Nat.le_refl _
              have HCA : Hid (∀ w, Below wr.heap.size wr w → Calls Try.prog 24 #[.pointer (some ⟨B, i * 3, none⟩), .agg #[.slice (some ⟨z.1.rb, 0, none⟩) z.1.rl z.1.rl, .slice (some ⟨z.1.gb, 0, none⟩) z.1.gl z.1.gl, .int .i64 z.1.ld]] w (CanPost w B (i * 3) 48 cur2 x (cancelN (runAll ⟨fillN y.2.1.row N, y.2.1.right⟩ (((ys.map (·.2)).drop (i + 1)).take t)) z.2))) := fun w hb => by
                refine cancel_any w B (i * 3) _ cur2 x z.1 _ z.2.1 z.2.2 M (hcx.below hb) (HK.out.line.below hb) (hzl2.below hb) hld hok.2 hos.ok hos.lt ?_ (fun q hq => ahead hos hq) ?_ hM ?_ ?_
                · rw [hok.1]; exact hos.len
                · rw [hok.1]; exact hN
                · rw [hxr]; exact hxg
                · rw [hxr]; omega
              have HCX := Lib.hid hcx
              have hB2 : B < wr.heap.size := hcx.lt
              have hrlt : Hid (rn < wr.heap.size) := by
                have := HK.out.line.row.lt
                rwa [hxr] at this
              clear hcz hej hcx hos hzl hzl2 hfo hok hnext hld hxr hxg hz hj
              go_upto_region 7 with fail
              have HB2 := Lib.hid ((Below.refl wr.heap.size wr).alloc (Nat.le_refl _) (.cells #[.slice (some ⟨z.1.rb, 0, none⟩) z.1.rl z.1.rl, .slice (some ⟨z.1.gb, 0, none⟩) z.1.gl z.1.gl, .int .i64 z.1.ld] 48))
              have b0 : (wr.alloc (.cells #[.slice (some ⟨z.1.rb, 0, none⟩) z.1.rl z.1.rl, .slice (some ⟨z.1.gb, 0, none⟩) z.1.gl z.1.gl, .int .i64 z.1.ld] 48)).cell? ⟨wr.heap.size, 0, none⟩ = some (.slice (some ⟨z.1.rb, 0, none⟩) z.1.rl z.1.rl) := by simp
              have b1 : (wr.alloc (.cells #[.slice (some ⟨z.1.rb, 0, none⟩) z.1.rl z.1.rl, .slice (some ⟨z.1.gb, 0, none⟩) z.1.gl z.1.gl, .int .i64 z.1.ld] 48)).cell? ⟨wr.heap.size, 1, none⟩ = some (.slice (some ⟨z.1.gb, 0, none⟩) z.1.gl z.1.gl) := by simp
              have b2 : (wr.alloc (.cells #[.slice (some ⟨z.1.rb, 0, none⟩) z.1.rl z.1.rl, .slice (some ⟨z.1.gb, 0, none⟩) z.1.gl z.1.gl, .int .i64 z.1.ld] 48)).cell? ⟨wr.heap.size, 2, none⟩ = some (.int .i64 z.1.ld) := by simp
              generalize wr.alloc (.cells #[.slice (some ⟨z.1.rb, 0, none⟩) z.1.rl z.1.rl, .slice (some ⟨z.1.gb, 0, none⟩) z.1.gl z.1.gl, .int .i64 z.1.ld] 48) = wa at *
              clear s0 s1 s2
              have u0 := cell_up b0
              have u1 := cell_up b1
              have u2 := cell_up b2
              refine growT_begin 4 (by kernel_rfl) ?_
              refine growT_take (by kernel_rfl) [0, 1, 2, 3] 1 _ _ (by kernel_rfl) ?_
              simp only [opsAt, List.getElem?_toArray, List.getElem?_cons_succ, List.getElem?_cons_zero]
              repeat (first | go_big_quiet_step (fail) | quiet_step (fail))
              refine wpQuiet_nil ?_
              intro w5 hw5
              have hb5 := below_of_up hw5
              have hb05 : Below wr.heap.size wr w5 := HB2.out.trans (hb5.mono HB2.out.size)
              clear u0 u1 u2 b0 b1 b2
              refine growT_last (by kernel_rfl) (by kernel_rfl) (fun K hK => ?_)
              simp only [stepOf, List.getElem?_toArray, List.getElem?_cons_succ, List.getElem?_cons_zero]
              go_simp
              go_at_call 24
              (with_reducible refine (HCA.out _ hb05).mono ?_)
              rintro e w6 ⟨gn, rfl, c6, l6, f6, g6⟩
              refine hK.out _ _ ?_
              clear hK K
              have HK6 : Hid (∃ cur x, CWork N wo ys xs0 i (t + 1) y rn w6 B cur x) := by
                have hs0 : wo.heap.size ≤ wr.heap.size := HK.out.fr.size
                have hs5 := hb05.size
                refine ⟨cur2.setIfInBounds (i * 3 + 1) (.slice (some ⟨gn, 0, none⟩) x.gl x.gl), x.right gn, ?_, ?_, ?_, HK.out.rb, ?_, HK.out.ld⟩
                · have := (HK.out.sb.below hb05).put (c := 1) (by rw [List.length_set]; exact hlx) (by omega) rfl c6
                  rwa [List.set_set] at this
                · refine (HK.out.fr.trans (Fr.of_below hb05)).trans' (f6) fun b hb e => ?_
                  rcases e with e | e
                  · exact e
                  · rw [HK.out.rb] at e; omega
                · rw [HNX.out]; exact l6
                · show gn ≠ rn
                  rcases g6 with rfl | g6
                  · exact HK.out.gb
                  · have := hrlt.out; omega
              clear HCA HB2 c6 l6 f6 g6 hb5 hb05 hw5 HCX HK hrlt HNX
              go_wp2_with fail
              go_roundg (r - (t + 1))
              case measure => omega
              case rel =>
                obtain ⟨cur, x, h⟩ := HK6.out
                exact ⟨t + 1, x, cur, by omega, Nat.le_refl _, by first | rfl | go_num | (congr 1; omega), h⟩
            · obtain rfl : t = r := by omega
              have hltrz : ¬ (t : Int) < (t : Int) := by omega
              have HF := Lib.hid (hfin.out t _ _ _ (by omega) HK.out)
              clear HK
              go_wp2_with fail
              go_roundg (ys.length - (i + 1))
              case measure => omega
              case rel => exact ⟨i + 1, _, _, hlt, Nat.le_refl _, by first | rfl | go_num | (congr 1; omega), HF⟩
      · obtain rfl : i = ys.length := by omega
        have hltz : ¬ (ys.length : Int) < (ys.length : Int) := by omega
        go_wp2_with fail
        go_end0
        exact .inr ⟨B, rfl, cur0, xs0, rfl, HC.out⟩
end Go.Proofs.Ytiglmoggpjgmbaa
