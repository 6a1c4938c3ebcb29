/-
  Package replay: a deed is done; a list is done, up to the first error.
-/
import Derived.Test.YtahkjimbmapofaaRpW
import Derived.Test.YtahkjimbmapofaaRpS
namespace Go.Proofs.Ytahkjimbmapofaa
open Go.ChangeShapes Go.WideShapes Go.ChangeAt Go.RowKit Go.Joins
set_option linter.unusedVariables false

theorem mkFunc (fn : Fn) (first cap : Array Value) (w : World) : (Instr.makeFunc fn first cap).run Try.prog w = .ok (.func fn first cap) w := rfl

set_option maxRecDepth 100000 in
theorem workOf_any (zt zf : Int) (c : Nat) (w : World) :
    Calls Try.prog 23 #[.agg #[.int .i64 zt, .int .i64 zf, .int .u8 (c : Int)]] w fun e w' => e = .returned (.func (.func (if zt = zf then 26 else 27)) #[] #[]) ∧ Below w.heap.size w w' := by
  have HB : Hid (Below w.heap.size w (w.alloc (.cells #[.int .i64 zt, .int .i64 zf, .int .u8 (c : Int)] 33))) := (Below.refl _ _).alloc (Nat.le_refl _) _
  by_cases e : zt = zf
  · subst e
    have hz : (zt == zt) = true := by simp
    rw [if_pos rfl]
    go_enter Try.func23, Try.ntmps23
    go_wp2_with fail
    go_ret
    exact ⟨rfl, HB.out⟩
  · have hz : (zt == zf) = false := by simpa using e
    rw [if_neg e]
    go_enter Try.func23, Try.ntmps23
    go_wp2_with fail
    go_ret
    exact ⟨rfl, HB.out⟩

/-- What one deed answers. -/
def DeedPost (B : Nat) (b : Nat) (rows : Rws) (zt zf : Int) (c : Nat) (w : World) (e : Ending) (w' : World) : Prop :=
  Below B w w' ∧ ((inS rows.length zt ∧ inS rows.length zf ∧ e = .returned (.int .i64 0) ∧ Brd B w' b (deedR rows (zt, zf, c))) ∨ (¬ (inS rows.length zt ∧ inS rows.length zf) ∧ e = .returned (.int .i64 1)))

set_option maxRecDepth 100000 in
theorem doScale_any (B : Nat) (w : World) (b : Nat) (rows : Rws) (z : Int) (c : Nat) (hb : Brd B w b rows) (hF : fewC rows = true) (hz : -9223372036854775808 ≤ z ∧ z ≤ 9223372036854775807) (hc : c < 256) :
    Calls Try.prog 26 #[.pointer (some ⟨b, 0, none⟩), .agg #[.int .i64 z, .int .i64 z, .int .u8 (c : Int)]] w (DeedPost B b rows z z c w) := by
  have hal : Below w.heap.size w (w.alloc (.cells #[.int .i64 z, .int .i64 z, .int .u8 (c : Int)] 33)) := (Below.refl _ _).alloc (Nat.le_refl _) _
  have hal2 : Below B w (w.alloc (.cells #[.int .i64 z, .int .i64 z, .int .u8 (c : Int)] 33)) := hal.mono hb.base
  have HC : Hid (Calls Try.prog 11 #[.pointer (some ⟨b, 0, none⟩), .int .i64 z, .int .u8 (c : Int)] (w.alloc (.cells #[.int .i64 z, .int .i64 z, .int .u8 (c : Int)] 33)) fun e w' => (∃ v, e = .returned (.int .i64 v)) ∧ DeedPost B b rows z z c w e w') := by
    by_cases h : inS rows.length z
    · obtain ⟨t, rfl⟩ : ∃ t : Nat, z = (t : Int) := ⟨z.toNat, by have := h.1; omega⟩
      refine (bdScale_any B _ b rows t c (hb.keep hal) hF (by have := h.2; omega) hc).mono ?_
      rintro e w' ⟨rfl, h1, h2⟩
      refine ⟨⟨_, rfl⟩, hal2.trans h2, .inl ⟨h, h, rfl, ?_⟩⟩
      simpa [deedR] using h1
    · refine ((repC.scaleBad B _ b rows z c (hb.keep hal) hF hz hc h)).mono ?_
      rintro e w' ⟨rfl, h1, h2⟩
      exact ⟨⟨_, rfl⟩, hal2.trans h2, .inr ⟨fun k => h k.1, rfl⟩⟩
  clear hb hal hal2 hF
  go_enter Try.func26, Try.ntmps26
  go_wp2_with fail
  (with_reducible refine HC.out.mono ?_)
  rintro e w' ⟨⟨v, rfl⟩, h1⟩
  have H1 := Lib.hid h1
  clear h1 HC
  go_wp2_with fail
  go_ret
  exact H1.out
set_option maxRecDepth 100000 in
theorem doAdd_any (B : Nat) (w : World) (b : Nat) (rows : Rws) (zt zf : Int) (c : Nat) (hb : Brd B w b rows) (hF : fewC rows = true) (hA : alikeB rows = true) (hz : -9223372036854775808 ≤ zt ∧ zt ≤ 9223372036854775807) (hf : -9223372036854775808 ≤ zf ∧ zf ≤ 9223372036854775807) (hc : c < 256) (hne : zt ≠ zf) :
    Calls Try.prog 27 #[.pointer (some ⟨b, 0, none⟩), .agg #[.int .i64 zt, .int .i64 zf, .int .u8 (c : Int)]] w (DeedPost B b rows zt zf c w) := by
  have hal : Below w.heap.size w (w.alloc (.cells #[.int .i64 zt, .int .i64 zf, .int .u8 (c : Int)] 33)) := (Below.refl _ _).alloc (Nat.le_refl _) _
  have hal2 : Below B w (w.alloc (.cells #[.int .i64 zt, .int .i64 zf, .int .u8 (c : Int)] 33)) := hal.mono hb.base
  have HC : Hid (Calls Try.prog 12 #[.pointer (some ⟨b, 0, none⟩), .int .i64 zt, .int .i64 zf, .int .u8 (c : Int)] (w.alloc (.cells #[.int .i64 zt, .int .i64 zf, .int .u8 (c : Int)] 33)) fun e w' => (∃ v, e = .returned (.int .i64 v)) ∧ DeedPost B b rows zt zf c w e w') := by
    by_cases h : inS rows.length zt ∧ inS rows.length zf
    · obtain ⟨t, rfl⟩ : ∃ t : Nat, zt = (t : Int) := ⟨zt.toNat, by have := h.1.1; omega⟩
      obtain ⟨f, rfl⟩ : ∃ t : Nat, zf = (t : Int) := ⟨zf.toNat, by have := h.2.1; omega⟩
      refine (bdAdd_any B _ b rows t f c (hb.keep hal) hF hA (by have := h.1.2; omega) (by have := h.2.2; omega) (by omega) hc).mono ?_
      rintro e w' ⟨rfl, h1, h2⟩
      refine ⟨⟨_, rfl⟩, hal2.trans h2, .inl ⟨h.1, h.2, rfl, ?_⟩⟩
      simpa [deedR, hne] using h1
    · refine ((repC.addBad B _ b rows zt zf c (hb.keep hal) hF hz hf hc fun k => h ⟨k.1, k.2.1⟩)).mono ?_
      rintro e w' ⟨rfl, h1, h2⟩
      exact ⟨⟨_, rfl⟩, hal2.trans h2, .inr ⟨h, rfl⟩⟩
  clear hb hal hal2 hF hA
  go_enter Try.func27, Try.ntmps27
  go_wp2_with fail
  (with_reducible refine HC.out.mono ?_)
  rintro e w' ⟨⟨v, rfl⟩, h1⟩
  have H1 := Lib.hid h1
  clear h1 HC
  go_wp2_with fail
  go_ret
  exact H1.out
end Go.Proofs.Ytahkjimbmapofaa
