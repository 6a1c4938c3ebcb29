/-
  Package dense's scale.
-/
import Derived.Test.YtiglmoggpjgmbaaCancel
namespace Go.Proofs.Ytiglmoggpjgmbaa
open Go.ChangeShapes Go.WideShapes Go.ChangeAt Go.RowKit Go.Joins
set_option linter.unusedVariables false

def LV.both (x : LV) (r g : Nat) : LV := ⟨r, x.rl, g, x.gl, x.ld⟩
def SclPost (w : World) (B o : Nat) (T : TypeId) (cs : Array Value) (x : LV) (l' : Ln) (e : Ending) (w' : World) : Prop :=
  ∃ r g cs', e = .returned (.tuple #[]) ∧ Cells3 w' B o T cs' (x.both r g) ∧ cs'.size = cs.size ∧ LineAt w' (x.both r g) l' ∧ Fr (fun k => k = B) w w' ∧ w.heap.size ≤ r ∧ r < g
theorem Cells3.set0 {w : World} {B o : Nat} {T : TypeId} {cs : Array Value} {x : LV} (h : Cells3 w B o T cs x) (r : Nat) :
    Cells3 (w.setCell ⟨B, o, none⟩ (.slice (some ⟨r, 0, none⟩) x.rl x.rl)) B o T (cs.setIfInBounds o (.slice (some ⟨r, 0, none⟩) x.rl x.rl)) (x.both r x.gb) := by
  have h1 := (Array.getElem?_eq_some_iff.1 h.c0).1
  refine ⟨block_setCell h.blk _, ?_, ?_, ?_⟩
  · simp [h1, LV.both]
  · rw [Array.getElem?_setIfInBounds_ne (by omega)]; exact h.c1
  · rw [Array.getElem?_setIfInBounds_ne (by omega)]; exact h.c2

set_option maxRecDepth 100000 in
set_option maxHeartbeats 2000000 in
theorem scale_line (w : World) (B o : Nat) (T : TypeId) (cs : Array Value) (x : LV) (l : Ln) (p M : Nat) (hc : Cells3 w B o T cs x) (hx : LineAt w x l) (hld : x.ld = (p : Int)) (okl : OkL M l) (hp : p < l.row.length) (hm : l.row.length ≤ 1000) (hM : M ≤ 1000) :
    Calls Try.prog 28 #[.pointer (some ⟨B, o, none⟩)] w (SclPost w B o T cs x (sclL l (invN (l.row.getD p 0)))) := by
  obtain ⟨xrb, xrl, xgb, xgl, xld⟩ := x
  have e1 := hx.rl
  have e2 := hx.gl
  simp only at e1 e2 hld
  subst e1 e2 hld
  obtain ⟨k0, k1, k2⟩ := hc.cell
  simp only at k0 k1 k2
  have hyb : l.row[p] < 256 := okl.row _ (List.getElem_mem hp)
  have kb := hx.row.cell hp
  simp only at kb
  have HC := Lib.hid hc
  have HX := Lib.hid hx
  have HOL := Lib.hid okl
  have HG := Lib.hid (getD_get hp)
  have hlr : l.right.length ≤ 1000000 := by have := okl.len; omega
  have hlw : l.row.length ≤ 1000000 := by omega
  clear hc hx okl
  generalize l.row[p] = y at *
  have r0 := cell_up k0
  have r2 := cell_up k2
  have rb := cell_up kb
  have i1 : (0 : Int) ≤ (p : Int) := by omega
  have i2 : (p : Int) < (l.row.length : Int) := by omega
  have hiv := inv_any y hyb
  have HIV : Hid (powI y (-1) = invN y) := rfl
  rw [HIV.out] at hiv
  have hil := invN_lt hyb
  generalize hcc : invN y = c at *
  have HCC := Lib.hid hcc
  clear hcc
  have HIV2 := Lib.hid hiv
  clear hiv k1
  go_enter Try.func28, Try.ntmps28
  go_wp2_with fail
  refine grow_begin (by kernel_rfl) ?_
  refine grow_take (by kernel_rfl) [0, 1, 2, 3, 4, 5, 6, 7, 8, 9] 2 _ _ (by kernel_rfl) ?_
  simp only [opsAt, List.getElem?_toArray, List.getElem?_cons_succ, List.getElem?_cons_zero]
  repeat (first | go_big_quiet_step (fail) | quiet_step (fail))
  refine wpQuiet_nil ?_
  intro w2 hw2
  have hb2 := below_of_up hw2
  clear r0 r2 rb
  refine grow_one 10 (by kernel_rfl) hw2 (fun K hK => ?_)
  simp only [stepOf, List.getElem?_toArray, List.getElem?_cons_succ, List.getElem?_cons_zero]
  go_simp
  go_at_call 37
  refine (HIV2.out _).mono ?_
  rintro e w2' ⟨rfl, rfl⟩
  refine hK.out _ _ (Below.refl _ _) ?_
  clear hK K
  refine grow_take (by kernel_rfl) [11] 0 _ _ (by kernel_rfl) ?_
  simp only [opsAt, List.getElem?_toArray, List.getElem?_cons_succ, List.getElem?_cons_zero]
  repeat (first | go_big_quiet_step (fail) | quiet_step (fail))
  refine wpQuiet_nil ?_
  intro w3 hw3
  have hb23 := below_of_up hw3
  have hb3 : Below w.heap.size w w3 := hb2.trans (hb23.mono hb2.size)
  refine grow_done (by kernel_rfl) ?_
  have HC3 := Lib.hid (HC.out.below hb3)
  have HX3 := Lib.hid (HX.out.below hb3)
  obtain ⟨k0, k1, k2⟩ := HC3.out.cell
  simp only at k0 k1 k2
  clear hb2 hw2 hb23 hw3 kb
  go_wp2_with fail
  refine (scale_any _ _ l.row c w3 hlw hil (HX3.out.row.sl HOL.out.row hlw)).mono ?_
  rintro e w4 ⟨rfl, hn4⟩
  have hb34 := hn4.below
  have HR4 := Lib.hid (BlkB.of_new hn4 (scaleN_len l.row c))
  have HC4 := Lib.hid (HC3.out.below hb34)
  have HX4 := Lib.hid (HX3.out.below hb34)
  obtain ⟨k0, k1, k2⟩ := HC4.out.cell
  simp only at k0 k1 k2
  have hf0 := HC4.out.loose o
  have hg3 : w.heap.size ≤ w3.heap.size := hb3.size
  have hg4 : w3.heap.size < w4.heap.size := HR4.out.lt
  have HB4 : Hid (Below w.heap.size w w4) := hb3.trans (hb34.mono hb3.size)
  clear hn4 hb34 HC3 HX3 hb3 HX HC
  generalize w3.heap.size = rb' at *
  have HC5 := Lib.hid (HC4.out.set0 rb')
  have HR5 := Lib.hid (HR4.out.set (p := ⟨B, o, none⟩) (Ne.symm (HC4.out.ne HR4.out)) (.slice (some ⟨rb', 0, none⟩) l.row.length l.row.length))
  have HG5 := Lib.hid (HX4.out.right.set (p := ⟨B, o, none⟩) (Ne.symm (HC4.out.ne HX4.out.right)) (.slice (some ⟨rb', 0, none⟩) l.row.length l.row.length))
  have HF5 : Hid (Fr (fun k => k = B) w (w4.setCell ⟨B, o, none⟩ (.slice (some ⟨rb', 0, none⟩) l.row.length l.row.length))) := Fr.set (X := fun k => k = B) (Fr.of_below HB4.out) (p := ⟨B, o, none⟩) (fun _ => rfl) _
  obtain ⟨j0, j1, j2⟩ := HC5.out.cell
  simp only [LV.both] at j0 j1 j2
  have hs5 : w4.heap.size ≤ (w4.setCell ⟨B, o, none⟩ (.slice (some ⟨rb', 0, none⟩) l.row.length l.row.length)).heap.size := by simp
  go_wp2_with fail
  clear k0 k1 k2 hf0
  generalize w4.setCell ⟨B, o, none⟩ (.slice (some ⟨rb', 0, none⟩) l.row.length l.row.length) = w5 at *
  refine (scale_any _ _ l.right c w5 hlr hil (HG5.out.sl HOL.out.right hlr)).mono ?_
  rintro e w6 ⟨rfl, hn6⟩
  have hb56 := hn6.below
  have HR6 := Lib.hid (BlkB.of_new hn6 (scaleN_len l.right c))
  have HC6 := Lib.hid (HC5.out.below hb56)
  have HRR6 := Lib.hid (HR5.out.below hb56)
  have HF6 := Lib.hid (HF5.out.later hb56)
  obtain ⟨k0, k1, k2⟩ := HC6.out.cell
  simp only [LV.both] at k0 k1 k2
  have hf1 := HC6.out.loose (o + 1)
  have hlt : rb' < w5.heap.size := HR5.out.lt
  have HSZ : Hid ((cs.setIfInBounds o (.slice (some ⟨rb', 0, none⟩) l.row.length l.row.length)).size = cs.size) := by show _ = _; simp
  generalize w5.heap.size = gb' at *
  clear hn6 hb56 HC5 HR5 HG5 HF5 j0 j1 j2 HC4 HR4 HX4
  go_wp2_with fail
  go_end0
  refine ⟨rb', gb', _, rfl, HC6.out.set1 gb', by simp, ?_, Fr.set (X := fun k => k = B) HF6.out (p := ⟨B, o + 1, none⟩) (fun _ => rfl) _, hg3, hlt⟩
  rw [HG.out, HCC.out]
  exact ⟨HRR6.out.set (p := ⟨B, o + 1, none⟩) (Ne.symm (HC6.out.ne HRR6.out)) _, by show _ = (scaleN _ _).length; rw [scaleN_len]; rfl, HR6.out.set (p := ⟨B, o + 1, none⟩) (Ne.symm (HC6.out.ne HR6.out)) _, by show _ = (scaleN _ _).length; rw [scaleN_len]; rfl⟩
end Go.Proofs.Ytiglmoggpjgmbaa
