/-
  The library's IndexFunc, Compare and BinarySearchFunc, as package dense uses them.
-/
import Derived.Test.YtiglmoggpjgmbaaScaleL
namespace Go.Proofs.Ytiglmoggpjgmbaa
open Go.ChangeShapes Go.WideShapes Go.ChangeAt Go.RowKit Go.Joins
set_option linter.unusedVariables false

theorem notZero_any (y : Nat) (w : World) : Calls Try.prog 26 #[.int .u8 (y : Int)] w fun e w' => e = .returned (.bool ((y : Int) != 0)) ∧ w = w' := by
  go_enter Try.func26, Try.ntmps26
  go_wp2
  go_ret
  exact ⟨rfl, rfl⟩

set_option maxHeartbeats 400000 in
theorem index_none (a : Option Addr) (cap : Nat) (l : List Nat) (w : World) (hs : Sl w a cap l) (hz : ∀ j, j < l.length → l.getD j 0 = 0) :
    Calls Try.prog 25 #[.slice a l.length cap, .func (.func 26) #[] #[]] w fun e w' => e = .returned (.int .i64 (-1)) ∧ w = w' := by
  have HS := Lib.hid hs
  have HZ := Lib.hid hz
  have hlm := hs.lt
  clear hs hz
  go_enter Try.func25, Try.ntmps25
  go_wp2_with fail
  go_loop [8] (fun i => ∃ k : Nat, k ≤ l.length ∧ i = .int .i64 k) (fun i => l.length - (intOf i).toNat)
  case atStart => exact ⟨0, by omega, rfl⟩
  case round =>
    obtain ⟨k, hk, rfl⟩ := hrel
    by_cases hlt : k < l.length
    · obtain ⟨b, off, rfl, hb⟩ := HS.out.some hlt
      have hck := hb k hlt
      have h0 : l[k] = 0 := by rw [← getD_get hlt]; exact HZ.out k hlt
      rw [h0] at hck
      have hn := notZero_any 0
      have he : (((0 : Nat) : Int) != 0) = false := rfl
      rw [he] at hn
      clear hb h0
      go_wp2_with fail
      refine (hn _).mono ?_
      rintro e w' ⟨rfl, rfl⟩
      go_wp2_with fail
      go_round
      case rel => exact ⟨k + 1, by omega, by go_num⟩
      case measure => simp [intOf]; omega
    · obtain rfl : k = l.length := by omega
      go_wp2_with fail
      go_ret
      exact ⟨rfl, rfl⟩

set_option maxHeartbeats 400000 in
theorem index_some (a : Option Addr) (cap : Nat) (l : List Nat) (p : Nat) (w : World) (hs : Sl w a cap l) (hp : p < l.length) (hne : l.getD p 0 ≠ 0) (hz : ∀ j, j < p → l.getD j 0 = 0) :
    Calls Try.prog 25 #[.slice a l.length cap, .func (.func 26) #[] #[]] w fun e w' => e = .returned (.int .i64 (p : Int)) ∧ w = w' := by
  have HS := Lib.hid hs
  have HZ := Lib.hid hz
  have HN := Lib.hid hne
  have hlm := hs.lt
  clear hs hz hne
  go_enter Try.func25, Try.ntmps25
  go_wp2_with fail
  go_loop [8] (fun i => ∃ k : Nat, k ≤ p ∧ i = .int .i64 k) (fun i => l.length - (intOf i).toNat)
  case atStart => exact ⟨0, by omega, rfl⟩
  case round =>
    obtain ⟨k, hk, rfl⟩ := hrel
    have hlt : k < l.length := by omega
    obtain ⟨b, off, rfl, hb⟩ := HS.out.some hlt
    have hck := hb k hlt
    by_cases e : k = p
    · subst e
      have h0 : l[k] ≠ 0 := by rw [← getD_get hlt]; exact HN.out
      generalize l[k] = y at *
      have hn := notZero_any y
      have he : ((y : Int) != 0) = true := by simp; omega
      rw [he] at hn
      clear hb h0 he
      go_wp2_with fail
      refine (hn _).mono ?_
      rintro e w' ⟨rfl, rfl⟩
      go_wp2_with fail
      go_ret
      exact ⟨rfl, rfl⟩
    · have h0 : l[k] = 0 := by rw [← getD_get hlt]; exact HZ.out k (by omega)
      rw [h0] at hck
      have hn := notZero_any 0
      have he : (((0 : Nat) : Int) != 0) = false := rfl
      rw [he] at hn
      clear hb h0
      go_wp2_with fail
      refine (hn _).mono ?_
      rintro e w' ⟨rfl, rfl⟩
      go_wp2_with fail
      go_round
      case rel => exact ⟨k + 1, by omega, by go_num⟩
      case measure => simp [intOf]; omega

/-- What Compare says. -/
def cmpI (a b : Int) : Int := if a < b then -1 else if b < a then 1 else 0

theorem isNaN_any (a : Int) (w : World) : Calls Try.prog 39 #[.int .i64 a] w fun e w' => e = .returned (.bool false) ∧ w = w' := by
  have h : (a != a) = false := by simp
  go_enter Try.func39, Try.ntmps39
  go_wp2
  go_ret
  exact ⟨rfl, rfl⟩
theorem ret_int {k : IntKind} {a b : Int} (h : a = b) : Ending.returned (.int k a) = .returned (.int k b) := by rw [h]
theorem compare_any (a b : Int) (w : World) : Calls Try.prog 31 #[.int .i64 a, .int .i64 b] w fun e w' => e = .returned (.int .i64 (cmpI a b)) ∧ w = w' := by
  by_cases h1 : a < b
  · have HE : Hid (cmpI a b = -1) := if_pos h1
    go_enter Try.func31, Try.ntmps31
    go_wp2_with (go_at_call 39; refine (isNaN_any _ _).mono ?_; rintro e w' ⟨rfl, rfl⟩)
    go_ret
    exact ⟨ret_int HE.out.symm, rfl⟩
  · by_cases h2 : b < a
    · have HE : Hid (cmpI a b = 1) := by show cmpI a b = 1; unfold cmpI; rw [if_neg h1, if_pos h2]
      go_enter Try.func31, Try.ntmps31
      go_wp2_with (go_at_call 39; refine (isNaN_any _ _).mono ?_; rintro e w' ⟨rfl, rfl⟩)
      go_ret
      exact ⟨ret_int HE.out.symm, rfl⟩
    · have HE : Hid (cmpI a b = 0) := by show cmpI a b = 0; unfold cmpI; rw [if_neg h1, if_neg h2]
      go_enter Try.func31, Try.ntmps31
      go_wp2_with (go_at_call 39; refine (isNaN_any _ _).mono ?_; rintro e w' ⟨rfl, rfl⟩)
      go_ret
      exact ⟨ret_int HE.out.symm, rfl⟩
theorem byLead_any (x : LV) (p : Int) (w : World) : Calls Try.prog 30 #[.agg #[.slice (some ⟨x.rb, 0, none⟩) x.rl x.rl, .slice (some ⟨x.gb, 0, none⟩) x.gl x.gl, .int .i64 x.ld], .int .i64 p] w fun e w' => e = .returned (.int .i64 (cmpI x.ld p)) ∧ Below w.heap.size w w' := by
  obtain ⟨rb, rl, gb, gl, ld⟩ := x
  go_enter Try.func30, Try.ntmps30
  go_wp2_with (go_at_call 31; refine (compare_any _ _ _).mono ?_; rintro e w' ⟨rfl, rfl⟩)
  go_ret
  exact ⟨rfl, (Below.refl _ _).alloc (Nat.le_refl _) _⟩

/-- A slice of lines: nothing to read, or a block that begins with these. -/
structure SB (w : World) (B : Nat) (cur : Array Value) (xs : List LV) : Prop where
  blk : w.heap[B]? = some (.cells cur 48 (0, 0))
  cells : ∀ i (h : i < xs.length), Cells3 w B (i * 3) 48 cur xs[i]
theorem SB.below {w w' : World} {B : Nat} {cur : Array Value} {xs : List LV} (h : SB w B cur xs) (k : Below w.heap.size w w') : SB w' B cur xs :=
  ⟨(k.block B (Array.getElem?_eq_some_iff.1 h.blk).1).trans h.blk, fun i hi => (h.cells i hi).below k⟩
/-- The slice '.slice a xs.length cap' is these lines. -/
def LS (w : World) (a : Option Addr) (xs : List LV) : Prop := xs = [] ∨ ∃ B cur, a = some ⟨B, 0, none⟩ ∧ SB w B cur xs
theorem LS.below {w w' : World} {a : Option Addr} {xs : List LV} (h : LS w a xs) (k : Below w.heap.size w w') : LS w' a xs := h.imp id fun ⟨B, cur, e, hs⟩ => ⟨B, cur, e, hs.below k⟩
theorem LS.some {w : World} {a : Option Addr} {xs : List LV} (h : LS w a xs) {k : Nat} (hk : k < xs.length) : ∃ B cur, a = some ⟨B, 0, none⟩ ∧ SB w B cur xs := by
  rcases h with rfl | h
  · simp at hk
  · exact h

def SeekPost (xs : List LV) (p : Int) (w : World) (e : Ending) (w' : World) : Prop :=
  ∃ i b, e = .returned (.tuple #[.int .i64 ((i : Nat) : Int), .bool b]) ∧ i ≤ xs.length ∧ (∀ j (h : j < xs.length), j < i → xs[j].ld < p) ∧ (∀ j (h : j < xs.length), i ≤ j → p ≤ xs[j].ld) ∧ Below w.heap.size w w'

set_option maxRecDepth 100000 in
set_option maxHeartbeats 1000000 in
theorem seek_any (a : Option Addr) (cap : Nat) (xs : List LV) (p : Int) (w : World) (hs : LS w a xs) (hn : xs.length ≤ 1000) (hup : (xs.map LV.ld).Pairwise (· < ·)) :
    Calls Try.prog 29 #[.slice a xs.length cap, .int .i64 p, .func (.func 30) #[] #[]] w (SeekPost xs p w) := by
  have HS := Lib.hid hs
  have HU : Hid (∀ i j (hi : i < xs.length) (hj : j < xs.length), i < j → xs[i].ld < xs[j].ld) := fun i j hi hj hij => by
    have := (List.pairwise_iff_getElem.1 hup) i j (by simpa using hi) (by simpa using hj) hij
    simpa using this
  clear hs hup
  go_enter Try.func29, Try.ntmps29
  go_wp2_with fail
  go_loopw [9, 10] (fun vi vj wr => ∃ i j : Nat, i ≤ j ∧ j ≤ xs.length ∧ vi = .int .i64 i ∧ vj = .int .i64 j ∧ Hid (∀ k (h : k < xs.length), k < i → xs[k].ld < p) ∧ Hid (∀ k (h : k < xs.length), j ≤ k → p ≤ xs[k].ld) ∧ Hid (Below w.heap.size w wr)) (fun vi vj _ => (intOf vj - intOf vi).toNat)
  case atStart => exact ⟨0, xs.length, by omega, Nat.le_refl _, rfl, rfl, fun k _ h => by omega, fun k h1 h2 => by omega, Below.refl _ _⟩
  case round =>
    obtain ⟨i, j, hij, hj, rfl, rfl, H1, H2, HB⟩ := hrel
    by_cases hlt : i < j
    · have hh1 : i ≤ (i + j) / 2 := by omega
      have hh2 : (i + j) / 2 < j := by omega
      have hlen : (i + j) / 2 < xs.length := by omega
      obtain ⟨B, cur, rfl, hsb⟩ := (HS.out.below HB.out).some hlen
      have hc := hsb.cells _ hlen
      obtain ⟨k0, k1, k2⟩ := hc.cell
      have hl := byLead_any xs[(i + j) / 2] p
      have HHI : Hid (∀ k (h : k < xs.length), (i + j) / 2 ≤ k → xs[(i + j) / 2].ld ≤ xs[k].ld) := fun k h hk => by
        by_cases e : (i + j) / 2 = k
        · subst e; exact Int.le_refl _
        · exact Int.le_of_lt (HU.out _ k hlen h (by omega))
      have HLO : Hid (∀ k (h : k < xs.length), k ≤ (i + j) / 2 → xs[k].ld ≤ xs[(i + j) / 2].ld) := fun k h hk => by
        by_cases e : k = (i + j) / 2
        · subst e; exact Int.le_refl _
        · exact Int.le_of_lt (HU.out k _ h hlen (by omega))
      clear hsb hc
      by_cases hd : xs[(i + j) / 2].ld < p
      · have HX : Hid (∀ k (h : k < xs.length), k < (i + j) / 2 + 1 → xs[k].ld < p) := fun k h hk => Int.lt_of_le_of_lt (HLO.out k h (by omega)) hd
        have hcm : cmpI xs[(i + j) / 2].ld p = -1 := if_pos hd
        rw [hcm] at hl
        clear hcm hd HHI HLO
        generalize xs[(i + j) / 2] = y at *
        go_wp2_with fail
        refine (hl _).mono ?_
        rintro e w2 ⟨rfl, b2⟩
        have HB2 : Hid (Below w.heap.size w w2) := HB.out.trans (b2.mono HB.out.size)
        clear b2
        go_wp2_with fail
        go_roundw
        case rel => exact ⟨(i + j) / 2 + 1, j, by omega, hj, by first | go_num | (congr 1; omega), rfl, HX, H2, HB2⟩
        case measure => simp [intOf]; omega
      · have HX : Hid (∀ k (h : k < xs.length), (i + j) / 2 ≤ k → p ≤ xs[k].ld) := fun k h hk => Int.le_trans (by omega) (HHI.out k h hk)
        obtain ⟨c, hcc⟩ : ∃ c, cmpI xs[(i + j) / 2].ld p = c := ⟨_, rfl⟩
        have hc0 : ¬ c < 0 := by rw [← hcc]; unfold cmpI; rw [if_neg hd]; split <;> omega
        rw [hcc] at hl
        clear hcc hd HHI HLO
        generalize xs[(i + j) / 2] = y at *
        go_wp2_with fail
        refine (hl _).mono ?_
        rintro e w2 ⟨rfl, b2⟩
        have HB2 : Hid (Below w.heap.size w w2) := HB.out.trans (b2.mono HB.out.size)
        clear b2
        go_wp2_with fail
        go_roundw
        case rel => exact ⟨i, (i + j) / 2, by omega, by omega, rfl, by first | go_num | (congr 1; omega), H1, HX, HB2⟩
        case measure => simp [intOf]; omega
    · obtain rfl : i = j := by omega
      by_cases hend : i < xs.length
      · obtain ⟨B, cur, rfl, hsb⟩ := (HS.out.below HB.out).some hend
        have hc := hsb.cells _ hend
        obtain ⟨k0, k1, k2⟩ := hc.cell
        have hl := byLead_any xs[i] p
        have hie : (i : Int) < (xs.length : Int) := by omega
        generalize xs[i] = y at *
        generalize cmpI y.ld p = c at *
        clear hsb hc
        cases hcb : (c == 0)
        all_goals
          go_wp2_with fail
          refine (hl _).mono ?_
          rintro e w2 ⟨rfl, b2⟩
          have HB2 : Hid (Below w.heap.size w w2) := HB.out.trans (b2.mono HB.out.size)
          clear b2
          go_wp2_with fail
          go_ret2
          exact ⟨i, _, rfl, hj, H1.out, H2.out, HB2.out⟩
      · have hie : ¬ (i : Int) < (xs.length : Int) := by omega
        have hie2 : decide ((i : Int) < (xs.length : Int)) = false := by simp; omega
        go_wp2_with fail
        go_ret2
        exact ⟨i, _, rfl, hj, H1.out, H2.out, HB.out⟩
end Go.Proofs.Ytiglmoggpjgmbaa
