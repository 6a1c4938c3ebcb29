/-
  Package dense's cancel.
-/
import Derived.Test.YtiglmoggpjgmbaaLine
namespace Go.Proofs.Ytiglmoggpjgmbaa
open Go.ChangeShapes Go.WideShapes Go.ChangeAt Go.RowKit Go.Joins
set_option linter.unusedVariables false

theorem addW_plus {l m : List Nat} (h : l.length = m.length) (c : Nat) : addW l m c = plusN l m c := by
  apply List.ext_getElem (by rw [addW_len, plusN_len _ _ _ (by omega)])
  intro i h1 h2
  have h3 : i < l.length := by rwa [addW_len] at h1
  have := addW_get l m c i h3
  rw [getD_get h1, getD_get h3, getD_get (show i < m.length by omega)] at this
  rw [this, plusN_get l m c i h2 h3 (by omega)]
def LV.right (x : LV) (g : Nat) : LV := ⟨x.rb, x.rl, g, x.gl, x.ld⟩
def CanPost (w : World) (B o : Nat) (T : TypeId) (cs : Array Value) (x : LV) (l' : Ln) (e : Ending) (w' : World) : Prop :=
  ∃ g, e = .returned (.tuple #[]) ∧ Cells3 w' B o T (cs.setIfInBounds (o + 1) (.slice (some ⟨g, 0, none⟩) x.gl x.gl)) (x.right g) ∧ LineAt w' (x.right g) l' ∧ Fr (fun k => k = B ∨ k = x.rb) w w' ∧ (g = x.gb ∨ w.heap.size ≤ g)

theorem Cells3.set1 {w : World} {B o : Nat} {T : TypeId} {cs : Array Value} {x : LV} (h : Cells3 w B o T cs x) (g : Nat) :
    Cells3 (w.setCell ⟨B, o + 1, none⟩ (.slice (some ⟨g, 0, none⟩) x.gl x.gl)) B o T (cs.setIfInBounds (o + 1) (.slice (some ⟨g, 0, none⟩) x.gl x.gl)) (x.right g) := by
  have h1 := (Array.getElem?_eq_some_iff.1 h.c1).1
  refine ⟨block_setCell h.blk _, ?_, ?_, ?_⟩
  · rw [Array.getElem?_setIfInBounds_ne (by omega)]; exact h.c0
  · simp [h1, LV.right]
  · rw [Array.getElem?_setIfInBounds_ne (by omega)]; exact h.c2
theorem BlkB.set {w : World} {b : Nat} {l : List Nat} (h : BlkB w b l) {p : Addr} (hp : b ≠ p.block) (u : Value) : BlkB (w.setCell p u) b l := (Below.heap_setCell _ _ _ _ hp).trans h
theorem set_same {cs : Array Value} {i : Nat} {v : Value} (h : cs[i]? = some v) : cs.setIfInBounds i v = cs := by
  apply Array.ext_getElem?
  intro j
  by_cases e : i = j
  · subst e
    have hlt := (Array.getElem?_eq_some_iff.1 h).1
    rw [h]; simp [hlt]
  · rw [Array.getElem?_setIfInBounds_ne e]

set_option maxRecDepth 100000 in
set_option maxHeartbeats 2000000 in
theorem cancel_any (w : World) (B o : Nat) (T : TypeId) (cs : Array Value) (x s : LV) (l sl : Ln) (p M : Nat) (hc : Cells3 w B o T cs x) (hx : LineAt w x l) (hs : LineAt w s sl) (hld : s.ld = (p : Int))
    (okl : OkL M l) (oks : OkL M sl) (hp : p < sl.row.length) (hle : sl.row.length ≤ l.row.length) (hz : ∀ j, j < p → sl.row.getD j 0 = 0) (hm : l.row.length ≤ 1000) (hM : M ≤ 1000) (hne1 : x.gb ≠ x.rb) (hne2 : s.gb ≠ x.rb) :
    Calls Try.prog 24 #[.pointer (some ⟨B, o, none⟩), .agg #[.slice (some ⟨s.rb, 0, none⟩) s.rl s.rl, .slice (some ⟨s.gb, 0, none⟩) s.gl s.gl, .int .i64 s.ld]] w (CanPost w B o T cs x (cancelN l (sl, p))) := by
  obtain ⟨xrb, xrl, xgb, xgl, xld⟩ := x
  obtain ⟨srb, srl, sgb, sgl, sld⟩ := s
  have e1 := hx.rl
  have e2 := hx.gl
  have e3 := hs.rl
  have e4 := hs.gl
  simp only at e1 e2 e3 e4 hld hne1 hne2
  subst e1 e2 e3 e4 hld
  have hpl : p < l.row.length := by omega
  obtain ⟨k0, k1, k2⟩ := hc.cell
  simp only at k0 k1 k2
  have hyb : l.row[p] < 256 := okl.row _ (List.getElem_mem hpl)
  have kb := hx.row.cell hpl
  simp only at kb
  have HC := Lib.hid hc
  have HX := Lib.hid hx
  have HS := Lib.hid hs
  have HOL := Lib.hid okl
  have HOS := Lib.hid oks
  have HZ := Lib.hid hz
  have HCN : Hid (cancelN l (sl, p) = axL l sl l.row[p]) := by show axL _ _ _ = _; rw [getD_get hpl]
  have hblt := hc.lt
  have hrlt := hx.row.lt
  simp only at hrlt
  clear hc hx hs okl oks hz
  generalize l.row[p] = y at *
  go_enter Try.func24, Try.ntmps24
  go_wp2_with fail
  have hb1 := (Below.refl w.heap.size w).alloc (Nat.le_refl _) (.cells #[.slice (some ⟨srb, 0, none⟩) sl.row.length sl.row.length, .slice (some ⟨sgb, 0, none⟩) sl.right.length sl.right.length, .int .i64 (p : Int)] 48)
  have q0 : (w.alloc (.cells #[.slice (some ⟨srb, 0, none⟩) sl.row.length sl.row.length, .slice (some ⟨sgb, 0, none⟩) sl.right.length sl.right.length, .int .i64 (p : Int)] 48)).cell? ⟨w.heap.size, 0, none⟩ = some (.slice (some ⟨srb, 0, none⟩) sl.row.length sl.row.length) := by simp
  have q1 : (w.alloc (.cells #[.slice (some ⟨srb, 0, none⟩) sl.row.length sl.row.length, .slice (some ⟨sgb, 0, none⟩) sl.right.length sl.right.length, .int .i64 (p : Int)] 48)).cell? ⟨w.heap.size, 1, none⟩ = some (.slice (some ⟨sgb, 0, none⟩) sl.right.length sl.right.length) := by simp
  have q2 : (w.alloc (.cells #[.slice (some ⟨srb, 0, none⟩) sl.row.length sl.row.length, .slice (some ⟨sgb, 0, none⟩) sl.right.length sl.right.length, .int .i64 (p : Int)] 48)).cell? ⟨w.heap.size, 2, none⟩ = some (.int .i64 (p : Int)) := by simp
  have k0' := (hb1.cell (p := ⟨B, o, none⟩) hblt).trans k0
  have k1' := (hb1.cell (p := ⟨B, o + 1, none⟩) hblt).trans k1
  have kb' := (hb1.cell (p := ⟨xrb, p, none⟩) hrlt).trans kb
  generalize w.alloc (.cells #[.slice (some ⟨srb, 0, none⟩) sl.row.length sl.row.length, .slice (some ⟨sgb, 0, none⟩) sl.right.length sl.right.length, .int .i64 (p : Int)] 48) = w1 at *
  have r0 := cell_up k0'
  have r2 := cell_up q2
  have rb := cell_up kb'
  have i1 : (0 : Int) ≤ (p : Int) := by omega
  have i2 : (p : Int) < (l.row.length : Int) := by omega
  refine grow_begin (by kernel_rfl) ?_
  refine grow_take (by kernel_rfl) [0, 1, 2, 3, 4, 5, 6, 7, 8] 0 _ _ (by kernel_rfl) ?_
  simp only [opsAt, List.getElem?_toArray, List.getElem?_cons_succ, List.getElem?_cons_zero]
  repeat (first | go_big_quiet_step (fail) | quiet_step (fail))
  refine wpQuiet_nil ?_
  intro w2 hw2
  have hb2 := below_of_up hw2
  refine grow_done (by kernel_rfl) ?_
  clear r0 r2 rb
  have hb02 : Below w.heap.size w w2 := hb1.trans (hb2.mono hb1.size)
  by_cases h0 : y = 0
  · subst h0
    have hz0 : (((0 : Nat) : Int) == 0) = true := rfl
    have HF : Hid (cancelN l (sl, p) = l) := by
      show _ = _
      rw [HCN.out]; unfold axL; rw [addW_zero, addW_zero]
    have HC1 := Lib.hid HC.out.c1
    clear q0 q1 q2 k0' k1' kb' k0 k1 k2 kb hw2 hb2
    go_wp2_with fail
    refine bodyPost_ret (results_none rfl _ _ _) rfl ?_
    refine ⟨xgb, rfl, ?_, ?_, Fr.of_below hb02, .inl rfl⟩
    · rw [set_same HC1.out]; exact HC.out.below hb02
    · rw [HF.out]; exact HX.out.below hb02
  · have hz0 : ((y : Int) == 0) = false := by simpa using h0
    have c0 := cell_up ((hb2.cell (p := ⟨B, o, none⟩) (by have := hb1.size; simp only at this ⊢; omega)).trans k0')
    have c2 := cell_up ((hb2.cell (p := ⟨w.heap.size, 2, none⟩) (World.block_lt_of_cell? _ _ q2)).trans q2)
    have c3 := cell_up ((hb2.cell (p := ⟨w.heap.size, 0, none⟩) (World.block_lt_of_cell? _ _ q0)).trans q0)
    have i3 : (p : Int) ≤ (sl.row.length : Int) := by omega
    have i4 : (sl.row.length : Int) ≤ (l.row.length : Int) := by omega
    have i5 : ¬ l.row.length = p := by omega
    clear h0
    go_wp2_with fail
    refine grow_begin (by kernel_rfl) ?_
    refine grow_take (by kernel_rfl) [0, 1, 2, 3, 4, 5, 6, 7, 8, 9, 10] 0 _ _ (by kernel_rfl) ?_
    simp only [opsAt, List.getElem?_toArray, List.getElem?_cons_succ, List.getElem?_cons_zero]
    repeat (first | go_big_quiet_step (fail) | quiet_step (fail))
    refine wpQuiet_nil ?_
    intro w3 hw3
    have hb3 := below_of_up hw3
    refine grow_done (by kernel_rfl) ?_
    have hb13 : Below w1.heap.size w1 w3 := hb2.trans (hb3.mono hb2.size)
    have hb03 : Below w.heap.size w w3 := hb1.trans (hb13.mono hb1.size)
    have d0 := (hb13.cell (p := ⟨w.heap.size, 0, none⟩) (World.block_lt_of_cell? _ _ q0)).trans q0
    have d1 := (hb13.cell (p := ⟨w.heap.size, 1, none⟩) (World.block_lt_of_cell? _ _ q1)).trans q1
    have d2 := (hb13.cell (p := ⟨w.heap.size, 2, none⟩) (World.block_lt_of_cell? _ _ q2)).trans q2
    have HX3 := Lib.hid (HX.out.below hb03)
    have HS3 := Lib.hid (HS.out.below hb03)
    have HC3 := Lib.hid (HC.out.below hb03)
    have i6 : ¬ sl.row.length = p := by omega
    clear c0 c2 c3 q0 q1 q2 k0' k1' kb' k0 k1 k2 kb hb2 hw2 hw3 hb3 hb13 hb02 hb1 HC HX HS
    go_wp2_with fail
    have hcl := cut_len (l := l.row) (p := p) (q := sl.row.length) (by omega) hle
    have hdl : (sl.row.drop p).length = sl.row.length - p := by simp
    have hs1 := cut_sl HX3.out.row HOL.out.row (by omega) (p := p) (q := sl.row.length) (by omega) hle
    have hs2 := cut_sl HS3.out.row HOS.out.row (by omega) (p := p) (q := sl.row.length) (by omega) (Nat.le_refl _)
    rw [List.take_of_length_le (by rw [hdl]; exact Nat.le_refl _)] at hs2
    have hax := axpy_same (some ⟨xrb, p, none⟩) (some ⟨srb, p, none⟩) (l.row.length - p) (sl.row.length - p) _ _ y w3 (by rw [hdl]; omega) hyb (by rw [hcl, hdl]) hs1 hs2
    rw [hcl, hdl] at hax
    have HAX := Lib.hid hax
    clear hax hs1 hs2 hcl hdl
    refine HAX.out.mono ?_
    rintro e w4 ⟨rfl, hn4⟩
    have hb34 := hn4.below
    have hb04 : Below w.heap.size w w4 := hb03.trans (hb34.mono hb03.size)
    have hl4 : (plusN ((l.row.drop p).take (sl.row.length - p)) (sl.row.drop p) y).length = sl.row.length - p := by
      rw [plusN_len _ _ _ (by rw [cut_len (by omega) hle]; simp), cut_len (by omega) hle]
    have hsum := BlkB.of_new hn4 hl4
    have hsrc : ∀ j v, ((plusN ((l.row.drop p).take (sl.row.length - p)) (sl.row.drop p) y).map byteV)[j]? = some v → w4.cell? ((⟨w3.heap.size, 0, none⟩ : Addr).add j) = some v := fun j v hv => by
      have hj : j < (plusN ((l.row.drop p).take (sl.row.length - p)) (sl.row.drop p) y).length := by
        rcases Nat.lt_or_ge j (plusN ((l.row.drop p).take (sl.row.length - p)) (sl.row.drop p) y).length with h | h
        · exact h
        · rw [List.getElem?_eq_none (by rw [List.length_map]; exact h)] at hv; cases hv
      rw [List.getElem?_map, List.getElem?_eq_getElem hj] at hv
      cases hv
      have := hsum.cell hj
      by_cases j0 : j = 0
      · subst j0; simpa [Addr.add, byteV] using this
      · simpa [Addr.add, j0, byteV] using this
    have HSRC := Lib.hid hsrc
    have HCL : Hid (((plusN ((l.row.drop p).take (sl.row.length - p)) (sl.row.drop p) y).map byteV).length = Nat.min (sl.row.length - p) (sl.row.length - p)) := by show _ = min _ _; rw [List.length_map, hl4]; simp
    have HFT : Hid (p + ((plusN ((l.row.drop p).take (sl.row.length - p)) (sl.row.drop p) y).map byteV).length ≤ (rowArr l.row.length (vOf l.row)).size) := by show _ ≤ _; rw [List.length_map, hl4, rowArr_size]; omega
    have H1C : Hid (∀ v ∈ (plusN ((l.row.drop p).take (sl.row.length - p)) (sl.row.drop p) y).map byteV, v.oneCell' = true) := bytes_one
    have HRA := Lib.hid (row_after (l := l.row) (m := sl.row) (c := y) (p := p) hle (by omega) HZ.out)
    have HG : Hid (w4.heap[xrb]? = some (.cells (rowArr l.row.length (vOf l.row)) 5 (0, 0))) := (HX3.out.below hb34).row
    have d0 := (hb34.cell (p := ⟨w.heap.size, 0, none⟩) (World.block_lt_of_cell? _ _ d0)).trans d0
    have d1 := (hb34.cell (p := ⟨w.heap.size, 1, none⟩) (World.block_lt_of_cell? _ _ d1)).trans d1
    have HX4 := Lib.hid (HX3.out.below hb34)
    have HS4 := Lib.hid (HS3.out.below hb34)
    have HC4 := Lib.hid (HC3.out.below hb34)
    generalize (plusN ((l.row.drop p).take (sl.row.length - p)) (sl.row.drop p) y).map byteV = cs0 at *
    clear hsrc hl4 hsum hn4 HAX HX3 HS3 HC3 d2
    unfold splice at HRA
    generalize w3.heap.size = sb at *
    go_wp2_with ((with_reducible refine wpList_copy_own rfl (.tmp 39) (.tmp 40) 32 32 rfl 5 Try.underlying32 (by kernel_rfl) xrb p (sl.row.length - p) (l.row.length - p) ⟨sb, 0, none⟩ (sl.row.length - p) (sl.row.length - p) rfl rfl (rowArr l.row.length (vOf l.row)) 5 HG.out cs0 HCL.out HSRC.out HFT.out H1C.out ?_); (rw [HRA.out]))
    have HRB5 : Hid (BlkB (w4.setRow xrb (rowArr (addW l.row sl.row y).length (vOf (addW l.row sl.row y)))) xrb (addW l.row sl.row y)) := setRow_heap _ _ _ _ _ _ HG.out
    have fr45 : Fr (fun k => k = xrb) w4 (w4.setRow xrb (rowArr (addW l.row sl.row y).length (vOf (addW l.row sl.row y)))) := (Fr.refl (fun k => k = xrb) w4).setRow (fun _ => rfl) _
    generalize w4.setRow xrb (rowArr (addW l.row sl.row y).length (vOf (addW l.row sl.row y))) = w5 at *
    have hsz : ¬ w.heap.size = xrb := by omega
    have hBx : ¬ B = xrb := HC4.out.ne HX4.out.row
    have HC5 := Lib.hid (HC4.out.fr fr45 hBx)
    obtain ⟨k0, k1, _⟩ := HC5.out.cell
    simp only at k0 k1
    have HGR5 : Hid (BlkB w5 xgb l.right) := HX4.out.right.fr fr45 hne1
    have HGS5 : Hid (BlkB w5 sgb sl.right) := HS4.out.right.fr fr45 hne2
    have d1' : w5.cell? ⟨w.heap.size, 1, none⟩ = some (.slice (some ⟨sgb, 0, none⟩) sl.right.length sl.right.length) := by
      rw [World.cell?_of_block (w := w4) (a := ⟨w.heap.size, 1, none⟩) (fr45.block _ (World.block_lt_of_cell? _ _ d1) hsz)]; exact d1
    have HF5 : Hid (Fr (fun k => k = B ∨ k = xrb) w w5) := (Fr.of_below hb04).trans (fr45.mono fun k _ h => .inr h)
    have HM1 : Hid (l.right.length = M) := HOL.out.len
    have HM2 : Hid (sl.right.length = M) := HOS.out.len
    have HM3 : Hid (l.right.length = sl.right.length) := HM1.out.trans HM2.out.symm
    have hm1 : l.right.length ≤ 1000000 := by rw [HM1.out]; omega
    have hm2 : sl.right.length ≤ 1000000 := by rw [HM2.out]; omega
    have r1 := cell_up k1
    have r3 := cell_up d1'
    clear HG HCL HSRC HFT H1C HRA d0 d1 k0 k1 d1' hb04 hb34 hb03 HX4 HS4 HC4 i1 i2 i3 i4 i5 i6
    go_frame
    refine growT_begin 14 (by kernel_rfl) ?_
    refine growT_take (by kernel_rfl) [0, 1, 2, 3, 4, 5, 6, 7] 7 _ _ (by kernel_rfl) ?_
    simp only [opsAt, List.getElem?_toArray, List.getElem?_cons_succ, List.getElem?_cons_zero]
    repeat (first | go_big_quiet_step (fail) | quiet_step (fail))
    refine wpQuiet_nil ?_
    intro w6 hw6
    have hb6 := below_of_up hw6
    clear r1 r3
    refine growT_one 8 (by kernel_rfl) hw6 (fun K hK => ?_)
    simp only [stepOf, List.getElem?_toArray, List.getElem?_cons_succ, List.getElem?_cons_zero]
    go_simp
    go_at_call 36
    refine (axpy_same _ _ _ _ l.right sl.right y w6 hm2 hyb HM3.out ((HGR5.out.below hb6).sl HOL.out.right hm1) ((HGS5.out.below hb6).sl HOS.out.right hm2)).mono ?_
    rintro e w7 ⟨rfl, hn7⟩
    have hb67 := hn7.below
    refine hK.out _ _ hb67 ?_
    clear hK K
    have HNR : Hid (BlkB w7 w6.heap.size (addW l.right sl.right y)) := by
      show BlkB _ _ _
      rw [addW_plus HM3.out]
      exact BlkB.of_new hn7 (plusN_len _ _ _ (Nat.le_of_eq HM3.out))
    have hge : w5.heap.size ≤ w6.heap.size := hb6.size
    have hb57 : Below w5.heap.size w5 w7 := hb6.trans (hb67.mono hb6.size)
    clear hn7
    generalize w6.heap.size = g2 at *
    refine growT_take (by kernel_rfl) [9, 10, 11, 12, 13] 1 _ _ (by kernel_rfl) ?_
    simp only [opsAt, List.getElem?_toArray, List.getElem?_cons_succ, List.getElem?_cons_zero]
    repeat (first | go_big_quiet_step (fail) | quiet_step (fail))
    refine wpQuiet_nil ?_
    intro w8 hw8
    have hb8 := below_of_up hw8
    have hb58 : Below w5.heap.size w5 w8 := hb57.trans (hb8.mono hb57.size)
    have HC8 := Lib.hid (HC5.out.below hb58)
    obtain ⟨_, k1, _⟩ := HC8.out.cell
    simp only at k1
    have hf1 := HC8.out.loose (o + 1)
    have HNR8 := Lib.hid (HNR.out.below hb8)
    have HRB8 := Lib.hid (HRB5.out.below hb58)
    have HF8 := Lib.hid (HF5.out.later hb58)
    have hgw : w.heap.size ≤ g2 := by have := HF5.out.size; omega
    clear hb8 hw8 hb58 hb57 hb67 hb6 hw6 HC5 HGR5 HGS5 HNR HRB5
    refine growT_last (by kernel_rfl) (by kernel_rfl) (fun K hK => ?_)
    simp only [stepOf, List.getElem?_toArray, List.getElem?_cons_succ, List.getElem?_cons_zero]
    go_simp
    refine hK.out _ _ ?_
    clear hK K
    go_wp2_with fail
    go_end0
    refine ⟨g2, rfl, ?_, ?_, HF8.out.set (fun _ => .inl rfl) _, .inr hgw⟩
    · exact HC8.out.set1 g2
    · rw [HCN.out]
      exact ⟨HRB8.out.set (Ne.symm (HC8.out.ne HRB8.out)) _, by show _ = (addW _ _ _).length; rw [addW_len]; rfl, HNR8.out.set (Ne.symm (HC8.out.ne HNR8.out)) _, by show _ = (addW _ _ _).length; rw [addW_len]; rfl⟩
end Go.Proofs.Ytiglmoggpjgmbaa
