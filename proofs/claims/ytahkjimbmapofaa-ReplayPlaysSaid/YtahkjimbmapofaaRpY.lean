/-
  Package replay: a deed is done to a board; a list of deeds, of slots.
-/
import Derived.Test.YtahkjimbmapofaaRpX
import Derived.Test.YtahkjimbmapofaaRpR
import Derived.Test.YtahkjimbmapofaaGrowN
namespace Go.Proofs.Ytahkjimbmapofaa
open Go.ChangeShapes Go.WideShapes Go.ChangeAt Go.RowKit Go.Joins
set_option linter.unusedVariables false

set_option maxRecDepth 1000000 in
set_option maxHeartbeats 2000000 in
theorem bdDo_any (B : Nat) (w : World) (b : Nat) (rows : Rws) (zt zf : Int) (c : Nat) (hb : Brd B w b rows) (hF : fewC rows = true) (hA : alikeB rows = true) (hz : -9223372036854775808 ≤ zt ∧ zt ≤ 9223372036854775807) (hf : -9223372036854775808 ≤ zf ∧ zf ≤ 9223372036854775807) (hc : c < 256) :
    Calls Try.prog 15 #[.pointer (some ⟨b, 0, none⟩), .agg #[.int .i64 zt, .int .i64 zf, .int .u8 (c : Int)]] w (DeedPost B b rows zt zf c w) := by
  obtain ⟨nb, hnb⟩ : ∃ nb, nb = w.heap.size := ⟨_, rfl⟩
  obtain ⟨wq, hwq⟩ : ∃ wq, wq = w.alloc (.cells #[.int .i64 zt, .int .i64 zf, .int .u8 (c : Int)] 33) := ⟨_, rfl⟩
  obtain ⟨wd, hwd⟩ : ∃ wd, wd = wq.drew := ⟨_, rfl⟩
  have hk : wq.heap[nb]? = some (.cells #[.int .i64 zt, .int .i64 zf, .int .u8 (c : Int)] 33 (0, 0)) := by rw [hwq, hnb]; exact heap_alloc_last w _
  have hkd : wd.heap[nb]? = some (.cells #[.int .i64 zt, .int .i64 zf, .int .u8 (c : Int)] 33 (0, 0)) := by rw [hwd]; exact hk
  have hd : Below w.heap.size w wd := by rw [hwd, hwq]; exact ((Below.refl _ _).alloc (Nat.le_refl _) _).drew
  have HBD := Lib.hid (hb.keep hd)
  have HD := Lib.hid (hd.mono hb.base)
  have v0 : ∀ u : Up wd, u.v.cell? ⟨nb, 0, none⟩ = some (.int .i64 zt) := fun u => u.cell (by rw [cell_of_block hkd]; rfl)
  have v1 : ∀ u : Up wd, u.v.cell? ⟨nb, 1, none⟩ = some (.int .i64 zf) := fun u => u.cell (by rw [cell_of_block hkd]; rfl)
  have v2 : ∀ u : Up wd, u.v.cell? ⟨nb, 2, none⟩ = some (.int .u8 (c : Int)) := fun u => u.cell (by rw [cell_of_block hkd]; rfl)
  have HW : Hid (∀ w0, Calls Try.prog 23 #[.agg #[.int .i64 zt, .int .i64 zf, .int .u8 (c : Int)]] w0 fun e w' => e = .returned (.func (.func (if zt = zf then 26 else 27)) #[] #[]) ∧ Below w0.heap.size w0 w') := fun w0 => workOf_any zt zf c w0
  have HDO : Hid (∀ w1, Below wd.heap.size wd w1 → Calls Try.prog (if zt = zf then 26 else 27) #[.pointer (some ⟨b, 0, none⟩), .agg #[.int .i64 zt, .int .i64 zf, .int .u8 (c : Int)]] w1 fun e w' => (∃ v, e = .returned (.int .i64 v)) ∧ DeedPost B b rows zt zf c w e w') := fun w1 k => by
    have hb1 := HBD.out.keep k
    have hlow := HD.out.trans (k.mono HBD.out.base)
    have key : Calls Try.prog (if zt = zf then 26 else 27) #[.pointer (some ⟨b, 0, none⟩), .agg #[.int .i64 zt, .int .i64 zf, .int .u8 (c : Int)]] w1 (DeedPost B b rows zt zf c w1) := by
      by_cases e : zt = zf
      · subst e
        rw [if_pos rfl]
        exact doScale_any B w1 b rows zt c hb1 hF hz hc
      · rw [if_neg e]
        exact doAdd_any B w1 b rows zt zf c hb1 hF hA hz hf hc e
    refine key.mono ?_
    rintro e w' ⟨h1, h2⟩
    refine ⟨?_, hlow.trans h1, h2⟩
    rcases h2 with ⟨_, _, h, _⟩ | ⟨_, h⟩
    · exact ⟨_, h⟩
    · exact ⟨_, h⟩
  obtain ⟨fn, hfn⟩ : ∃ fn, fn = (if zt = zf then 26 else 27) := ⟨_, rfl⟩
  have HFN : Hid (fn = 26 ∨ fn = 27) := by
    by_cases e : zt = zf
    · left; rw [hfn, if_pos e]
    · right; rw [hfn, if_neg e]
  rw [← hfn] at HW HDO
  clear hfn hb hF hA hk hkd hd
  go_enter Try.func15, Try.ntmps15
  go_wp2_with fail
  refine growK_begin 4 (fun w' => ∃ u : Up wd, w' = u.v) (by kernel_rfl) ?_
  rw [← hwq, ← hwd, ← hnb]
  clear hwd hwq hnb
  refine growU_take (by kernel_rfl) [0, 2, 3] 3 _ _ (by kernel_rfl) ?_ _ (up_class (Fr.refl _ _))
  simp only [opsAt, List.getElem?_toArray, List.getElem?_cons_succ, List.getElem?_cons_zero]
  repeat (first | go_big_quiet_step (fail) | quiet_step (fail))
  refine wpQuiet_nil ?_
  rintro w0 ⟨u0, rfl⟩
  have HW0 := Lib.hid (HW.out u0.v)
  have HU0 := Lib.hid (up_below u0)
  have HF0 := Lib.hid u0.h
  generalize u0.v = w0 at *
  clear HW v0 v1 v2
  refine growK_one 1 (by kernel_rfl) (fun K hK => ?_)
  simp only [stepOf, List.getElem?_toArray, List.getElem?_cons_succ, List.getElem?_cons_zero]
  go_simp
  go_at_call 23
  (with_reducible refine HW0.out.mono ?_)
  rintro e w1 ⟨rfl, b1⟩
  have H1 := Lib.hid (HDO.out w1 (HU0.out.trans (b1.mono HU0.out.size)))
  refine hK.out _ _ (up_class (HF0.out.trans (Fr.of_below b1))) ?_
  clear hK K HW0 HDO b1 HD HBD HU0 HF0
  rcases HFN.out with rfl | rfl
  all_goals
    refine growKU_last (i := 5) (by kernel_rfl) (by kernel_rfl) (by decide) (by kernel_rfl) (fun K hK => ?_)
    simp only [stepOf, List.getElem?_toArray, List.getElem?_cons_succ, List.getElem?_cons_zero]
    go_simp
    first | go_at_call 26 | go_at_call 27
    (with_reducible refine H1.out.mono ?_)
    rintro e w2 ⟨⟨v, rfl⟩, h2⟩
    have H2 := Lib.hid h2
    clear h2 H1
    refine hK.out _ _ ?_
    clear hK K
    simp only [stepOf, List.getElem?_toArray, List.getElem?_cons_succ, List.getElem?_cons_zero]
    go_simp
    go_wp2_with fail
    go_ret
    exact H2.out
end Go.Proofs.Ytahkjimbmapofaa
