/-
  What package vector's functions, and the document's Plus, answer of any bytes.
-/
import Derived.Test.YtahkjimbmapofaaFieldA
import Derived.Test.YtahkjimbmapofaaBytes
import Derived.StillTailTactics
namespace Go.Proofs.Ytahkjimbmapofaa
open Go.ChangeShapes Go.WideShapes Go.ChangeAt Go.RowKit
set_option linter.unusedVariables false

/-- c times each. -/
def scaleN (l : List Nat) (c : Nat) : List Nat := l.map fun x => mulN x c
/-- Each, and c times another. -/
def plusN (l m : List Nat) (c : Nat) : List Nat := List.zipWith (fun x y => x ^^^ mulN y c) l m

theorem scaleN_len (l : List Nat) (c : Nat) : (scaleN l c).length = l.length := by simp [scaleN]
theorem plusN_len (l m : List Nat) (c : Nat) (h : l.length ≤ m.length) : (plusN l m c).length = l.length := by simp [plusN]; omega
theorem scaleN_byte (l : List Nat) (c : Nat) (h : IsByte l) : IsByte (scaleN l c) := fun n hn => by
  obtain ⟨x, hx, rfl⟩ := List.mem_map.1 hn
  exact mulN_lt c (h x hx)
theorem plusN_get (l m : List Nat) (c k : Nat) (h : k < (plusN l m c).length) (h1 : k < l.length) (h2 : k < m.length) : (plusN l m c)[k] = l[k] ^^^ mulN m[k] c := by simp [plusN]
theorem scaleN_get (l : List Nat) (c k : Nat) (h : k < (scaleN l c).length) (h1 : k < l.length) : (scaleN l c)[k] = mulN l[k] c := by simp [scaleN]
theorem plusN_byte (l m : List Nat) (c : Nat) (h1 : IsByte l) (h2 : IsByte m) : IsByte (plusN l m c) := fun n hn => by
  obtain ⟨i, hi, rfl⟩ := List.getElem_of_mem hn
  have hi' : i < l.length ∧ i < m.length := by simp [plusN] at hi; omega
  rw [plusN_get l m c i hi hi'.1 hi'.2]
  exact xor_lt (h1 _ (List.getElem_mem _)) (mulN_lt _ (h2 _ (List.getElem_mem _)))

set_option maxHeartbeats 400000 in
theorem scale_any (a : Option Addr) (cap : Nat) (l : List Nat) (c : Nat) (w : World) (hl : l.length ≤ 1000000) (hc : c < 256) (hs : Sl w a cap l) :
    Calls Try.prog 21 #[.slice a l.length cap, .int .u8 (c : Int)] w fun e w' => e = .returned (.slice (some ⟨w.heap.size, 0, none⟩) l.length l.length) ∧ NewTo w w' (scaleN l c) l.length := by
  have HS := Lib.hid hs
  have hmk := make_row l.length hl
  have HN := Lib.hid (new_start w (scaleN l c) l.length (scaleN_len l c))
  clear hs
  go_enter Try.func21, Try.ntmps21
  go_wp2_with fail
  clear hmk
  go_loopw [13] (fun i wr => ∃ k : Nat, k ≤ l.length ∧ i = .int .i64 k ∧ Hid (NewTo w wr (scaleN l c) k)) (fun i _ => l.length - (intOf i).toNat)
  case atStart => exact ⟨0, by omega, rfl, HN⟩
  case round =>
    obtain ⟨k, hk, rfl, HK⟩ := hrel
    by_cases hlt : k < l.length
    · obtain ⟨b, off, rfl, hb⟩ := (HS.out.below HK.out.below).some hlt
      have hck := hb k hlt
      have hx : l[k] < 256 := HS.out.byte _ (List.getElem_mem hlt)
      obtain ⟨vk, hcv⟩ := HK.out.row.has k (by rw [scaleN_len]; exact hlt)
      have hlo := HK.out.row.loose k
      have HX : Hid (NewTo w (wr.setCell ⟨w.heap.size, k, none⟩ (.int .u8 ((mulN l[k] c : Nat) : Int))) (scaleN l c) (k + 1)) := HK.out.set (by rw [scaleN_len]; exact hlt) (by rw [scaleN_get l c k _ hlt])
      generalize l[k] = x at *
      clear hb
      go_wp2_with (go_at_call 24; refine (mul_any _ _ hx hc _).mono ?_; rintro e w' ⟨rfl, rfl⟩)
      go_roundw
      case rel => exact ⟨k + 1, by omega, by go_num, HX⟩
      case measure => simp [intOf]; omega
    · obtain rfl : k = l.length := by omega
      go_wp2_with fail
      go_ret
      exact ⟨rfl, HK.out⟩

/-- A row that is c times m first, and l added to it up to a place. -/
def mixV (l m : List Nat) (c k j : Nat) : Value := if j < k then vOf (plusN l m c) j else vOf (scaleN m c) j
structure MixTo (W w : World) (l m : List Nat) (c k : Nat) : Prop where
  below : Below W.heap.size W w
  row : Row w W.heap.size 5 m.length m.length (mixV l m c k)
theorem MixTo.start {W w : World} {m : List Nat} {c : Nat} (l : List Nat) (h : NewTo W w (scaleN m c) m.length) : MixTo W w l m c 0 := by
  have hr := h.row
  rw [scaleN_len] at hr
  exact ⟨h.below, hr.mono (Nat.le_refl _) fun j hj => by simp [mixV]⟩
theorem MixTo.set {W w : World} {l m : List Nat} {c k : Nat} (h : MixTo W w l m c k) (he : l.length = m.length) (hk : k < m.length) {u : Value} (hu : u = vOf (plusN l m c) k) : MixTo W (w.setCell ⟨W.heap.size, k, none⟩ u) l m c (k + 1) :=
  ⟨h.below.setCell (Nat.le_refl _) _, (h.row.upd k hk u).mono (Nat.le_refl _) fun j hj => by
    by_cases e : j = k
    · subst e; simp [mixV, hu]
    · simp only [e, if_false, mixV]
      by_cases h2 : j < k
      · rw [if_pos h2, if_pos (by omega)]
      · rw [if_neg h2, if_neg (by omega)]⟩
theorem MixTo.done {W w : World} {l m : List Nat} {c : Nat} (h : MixTo W w l m c l.length) (he : l.length = m.length) : NewTo W w (plusN l m c) l.length := by
  refine ⟨h.below, ?_⟩
  rw [plusN_len l m c (by omega)]
  have hr := h.row
  rw [← he] at hr
  exact hr.mono (Nat.le_refl _) fun j hj => by simp [mixV, hj]

set_option maxHeartbeats 400000 in
theorem axpy_same (a a2 : Option Addr) (cap cap2 : Nat) (l m : List Nat) (c : Nat) (w : World) (hl : m.length ≤ 1000000) (hc : c < 256) (he : l.length = m.length) (hs : Sl w a cap l) (hs2 : Sl w a2 cap2 m) :
    Calls Try.prog 22 #[.slice a l.length cap, .slice a2 m.length cap2, .int .u8 (c : Int)] w fun e w' => e = .returned (.tuple #[.slice (some ⟨w.heap.size, 0, none⟩) l.length l.length, .int .i64 0]) ∧ NewTo w w' (plusN l m c) l.length := by
  have HS := Lib.hid hs
  have HS2 := Lib.hid hs2
  have HE := Lib.hid he
  rw [he]
  have hne : ((m.length : Int) != (m.length : Int)) = false := by simp
  clear hs hs2 he
  go_enter Try.func22, Try.ntmps22
  go_wp2_with fail
  refine (scale_any _ _ _ _ _ hl hc HS2.out).mono ?_
  rintro e w1 ⟨rfl, hn1⟩
  have HN := Lib.hid (MixTo.start l hn1)
  clear hn1
  go_wp2_with fail
  go_loopw [21] (fun i wr => ∃ k : Nat, k ≤ m.length ∧ i = .int .i64 k ∧ Hid (MixTo w wr l m c k)) (fun i _ => m.length - (intOf i).toNat)
  case atStart => exact ⟨0, by omega, rfl, HN⟩
  case round =>
    obtain ⟨k, hk, rfl, HK⟩ := hrel
    by_cases hlt : k < m.length
    · have hlt1 : k < l.length := by rw [HE.out]; exact hlt
      obtain ⟨b, off, rfl, hb⟩ := (HS.out.below HK.out.below).some hlt1
      have hck := hb k hlt1
      have hx : l[k] < 256 := HS.out.byte _ (List.getElem_mem hlt1)
      have hy : mulN m[k] c < 256 := mulN_lt _ (HS2.out.byte _ (List.getElem_mem hlt))
      have hcv : wr.cell? ⟨w.heap.size, k, none⟩ = some (.int .u8 ((mulN m[k] c : Nat) : Int)) := by
        rw [HK.out.row.cell k hlt]
        simp only [mixV, Nat.lt_irrefl, if_false]
        rw [vOf_eq _ _ (by rw [scaleN_len]; exact hlt), scaleN_get m c k _ hlt]
      have hlo := HK.out.row.loose k
      have HX : Hid (MixTo w (wr.setCell ⟨w.heap.size, k, none⟩ (.int .u8 ((l[k] ^^^ mulN m[k] c : Nat) : Int))) l m c (k + 1)) := HK.out.set HE.out hlt (by rw [vOf_eq _ _ (by rw [plusN_len l m c (by have := HE.out; omega)]; exact hlt1), plusN_get l m c k _ hlt1 hlt])
      generalize l[k] = x at *
      generalize mulN m[k] c = y at *
      clear hb
      go_wp2_with (go_at_call 25; refine (add_any _ _ hx hy _).mono ?_; rintro e w' ⟨rfl, rfl⟩)
      go_roundw
      case rel => exact ⟨k + 1, by omega, by go_num, HX⟩
      case measure => simp [intOf]; omega
    · obtain rfl : k = m.length := by omega
      go_wp2_with fail
      go_ret2
      exact ⟨rfl, by have h := HK.out; rw [← HE.out] at h ⊢; exact h.done HE.out⟩

theorem axpy_other (a a2 : Option Addr) (n m cap cap2 : Nat) (c : Nat) (w : World) (he : n ≠ m) :
    Calls Try.prog 22 #[.slice a n cap, .slice a2 m cap2, .int .u8 (c : Int)] w fun e w' => e = .returned (.tuple #[.slice none 0 0, .int .i64 1]) ∧ w = w' := by
  have hne : ((n : Int) != (m : Int)) = true := by simp; omega
  have HE := Lib.hid he
  clear he
  go_enter Try.func22, Try.ntmps22
  go_wp2
  go_ret2
  exact ⟨rfl, rfl⟩

theorem refMul_still (a b : Nat) (ha : a < 256) (hb : b < 256) (w : World) :
    Calls Try.prog 18 #[.int .u8 (a : Int), .int .u8 (b : Int)] w fun e w' => e = .returned (.int .u8 ((mulN a b : Nat) : Int)) ∧ w' = w :=
  (refMul_any a b ha hb w).mono fun _ _ ⟨h1, h2⟩ => ⟨h1, h2.symm⟩

set_option maxRecDepth 100000 in
set_option maxHeartbeats 400000 in
theorem plus_any (a a2 : Option Addr) (cap cap2 : Nat) (l m : List Nat) (c : Nat) (w : World) (hl : m.length ≤ 1000000) (hc : c < 256) (he : l.length ≤ m.length) (hs : Sl w a cap l) (hs2 : Sl w a2 cap2 m) :
    Calls Try.prog 9 #[.slice a l.length cap, .slice a2 m.length cap2, .int .u8 (c : Int)] w fun e w' => e = .returned (.slice (some ⟨w.heap.size, 0, none⟩) l.length l.length) ∧ NewTo w w' (plusN l m c) l.length := by
  have HS := Lib.hid hs
  have HS2 := Lib.hid hs2
  have hmk := make_row l.length (by omega)
  have HN := Lib.hid (new_start w (plusN l m c) l.length (plusN_len l m c he))
  clear hs hs2
  go_enter Try.func9, Try.ntmps9
  go_wp2_with fail
  clear hmk
  go_loopw [14] (fun i wr => ∃ k : Nat, k ≤ l.length ∧ i = .int .i64 k ∧ Hid (NewTo w wr (plusN l m c) k)) (fun i _ => l.length - (intOf i).toNat)
  case atStart => exact ⟨0, by omega, rfl, HN⟩
  case round =>
    obtain ⟨k, hk, rfl, HK⟩ := hrel
    by_cases hlt : k < l.length
    · have hlt2 : k < m.length := by omega
      obtain ⟨b, off, rfl, hb⟩ := (HS.out.below HK.out.below).some hlt
      obtain ⟨b2, off2, rfl, hb2⟩ := (HS2.out.below HK.out.below).some hlt2
      have hck := hb k hlt
      have hck2 := hb2 k hlt2
      have hx : l[k] < 256 := HS.out.byte _ (List.getElem_mem hlt)
      have hy : m[k] < 256 := HS2.out.byte _ (List.getElem_mem hlt2)
      obtain ⟨vk, hcv⟩ := HK.out.row.has k (by rw [plusN_len l m c he]; exact hlt)
      have hlo := HK.out.row.loose k
      have HX : Hid (NewTo w (wr.setCell ⟨w.heap.size, k, none⟩ (.int .u8 ((l[k] ^^^ mulN m[k] c : Nat) : Int))).drew (plusN l m c) (k + 1)) := (HK.out.set (by rw [plusN_len l m c he]; exact hlt) (by rw [plusN_get l m c k _ hlt hlt2])).drew
      generalize l[k] = x at *
      generalize m[k] = y at *
      have hp := mulN_lt c hy
      have hxor := xor8 x (mulN y c) hx hp
      have i1 : (0 : Int) ≤ (k : Int) := by omega
      have i2 : (k : Int) < (l.length : Int) := by omega
      have i3 : (k : Int) < (m.length : Int) := by omega
      clear hb hb2
      go_wp2_with fail
      refine wp_region_still_tail 14 (by kernel_rfl) (by kernel_rfl) ?_
      simp only [List.take_succ_cons, List.take_zero, List.drop_succ_cons, List.drop_zero]
      repeat (first | still_step | (still_call (refMul_still _ _ hy hc _)))
      refine wpStill_nil ?_
      change wpList _ _ _ _ _ wr.drew
      clear i1 i2 i3 hxor
      go_wp2
      go_roundw
      case rel => exact ⟨k + 1, by omega, by go_num, HX⟩
      case measure => simp [intOf]; omega
    · obtain rfl : k = l.length := by omega
      go_wp2_with fail
      go_ret
      exact ⟨rfl, HK.out⟩

theorem getD_lt {l : List Nat} (h : IsByte l) (k : Nat) : l.getD k 0 < 256 := by
  by_cases hk : k < l.length
  · simp only [List.getD, List.getElem?_eq_getElem hk, Option.getD_some]; exact h _ (List.getElem_mem hk)
  · simp [List.getD, List.getElem?_eq_none (show l.length ≤ k by omega)]
end Go.Proofs.Ytahkjimbmapofaa
