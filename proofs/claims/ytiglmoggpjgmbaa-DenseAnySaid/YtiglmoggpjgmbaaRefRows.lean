/-
  The document's Rows and Symbol, and the law's few.
-/
import Derived.Test.YtiglmoggpjgmbaaPush
import Derived.Test.YtiglmoggpjgmbaaFieldB
import Derived.Test.YtiglmoggpjgmbaaGrow
namespace Go.Proofs.Ytiglmoggpjgmbaa
open Go.ChangeShapes Go.WideShapes Go.ChangeAt Go.RowKit Go.Joins
set_option linter.unusedVariables false

/-- The longest of the first k. -/
def longTo (ls : Rws) : Nat → Nat
  | 0 => 0
  | k + 1 => max (longTo ls k) (ls.getD k []).length
def longN (ls : Rws) : Nat := longTo ls ls.length
theorem getR {ls : Rws} {k : Nat} (h : k < ls.length) : ls.getD k [] = ls[k] := by simp [List.getD, h]
theorem longTo_ge {ls : Rws} : ∀ {k i : Nat}, i < k → (ls.getD i []).length ≤ longTo ls k
  | k + 1, i, h => by
    by_cases e : i = k
    · subst e; exact Nat.le_max_right _ _
    · exact Nat.le_trans (longTo_ge (k := k) (by omega)) (Nat.le_max_left _ _)
theorem longN_ge {ls : Rws} : ∀ x ∈ ls, x.length ≤ longN ls := fun x hx => by
  obtain ⟨i, hi, rfl⟩ := List.getElem_of_mem hx
  rw [← getR hi]; exact longTo_ge hi
theorem longTo_le {ls : Rws} {m : Nat} (h : ∀ x ∈ ls, x.length ≤ m) : ∀ k, k ≤ ls.length → longTo ls k ≤ m
  | 0, _ => Nat.zero_le _
  | k + 1, hk => Nat.max_le.2 ⟨longTo_le h k (by omega), by rw [getR (by omega)]; exact h _ (List.getElem_mem _)⟩
theorem longN_le {ls : Rws} {m : Nat} (h : ∀ x ∈ ls, x.length ≤ m) : longN ls ≤ m := longTo_le h _ (Nat.le_refl _)

def fewB (ls : Rws) : Bool := decide (ls.length ≤ 40) && ls.all fun x => decide (x.length ≤ 40)
theorem fewB_iff {ls : Rws} : fewB ls = true ↔ ls.length ≤ 40 ∧ ∀ x ∈ ls, x.length ≤ 40 := by simp [fewB]

theorem ret_bool {a b : Bool} (h : a = b) : Ending.returned (.bool a) = .returned (.bool b) := by rw [h]

set_option maxHeartbeats 400000 in
theorem few_any (B : Nat) (a : Option Addr) (cap : Nat) (ls : Rws) (w : World) (hs : Rs B w a cap ls) :
    Calls Try.prog 7 #[.slice a ls.length cap] w fun e w' => e = .returned (.bool (fewB ls)) ∧ w = w' := by
  have HS := Lib.hid hs
  have hlm := hs.lt
  clear hs
  go_enter Try.func7, Try.ntmps7
  go_wp2_with fail
  go_loop [6] (fun i => ∃ k : Nat, k ≤ ls.length ∧ i = .int .i64 k ∧ Hid (∀ j (h : j < ls.length), j < k → j < 40 ∧ ls[j].length ≤ 40)) (fun i => ls.length - (intOf i).toNat)
  case atStart => exact ⟨0, by omega, rfl, fun j _ hj => by omega⟩
  case round =>
    obtain ⟨k, hk, rfl, HT⟩ := hrel
    by_cases hlt : k < ls.length
    · obtain ⟨b, off, rfl, hB, hr⟩ := HS.out.some hlt
      obtain ⟨ai, ci, hck, hrw⟩ := hr k hlt
      have hsl := hrw.sl.lt
      by_cases h40 : 40 ≤ k
      · have HF : Hid (fewB ls = false) := by
          show _ = _
          rw [Bool.eq_false_iff]
          intro h
          have := (fewB_iff.1 h).1
          omega
        have hd : decide ((40 : Int) ≤ (k : Int)) = true := by simp; omega
        clear hr hrw
        go_wp2_with fail
        go_ret
        exact ⟨ret_bool HF.out.symm, rfl⟩
      · have hd : decide ((40 : Int) ≤ (k : Int)) = false := by simp; omega
        have hd2 : ¬ (40 : Int) ≤ (k : Int) := by omega
        by_cases hbig : 40 < ls[k].length
        · have HF : Hid (fewB ls = false) := by
            show _ = _
            rw [Bool.eq_false_iff]
            intro h
            have := (fewB_iff.1 h).2 _ (List.getElem_mem hlt)
            omega
          generalize ls[k] = x at *
          have hd3 : (40 : Int) < (x.length : Int) := by omega
          clear hr hrw
          go_wp2_with fail
          go_ret
          exact ⟨ret_bool HF.out.symm, rfl⟩
        · have HX : Hid (∀ j (h : j < ls.length), j < k + 1 → j < 40 ∧ ls[j].length ≤ 40) := fun j h hj => by
            by_cases e : j = k
            · subst e; exact ⟨by omega, by omega⟩
            · exact HT.out j h (by omega)
          generalize ls[k] = x at *
          have hd3 : ¬ (40 : Int) < (x.length : Int) := by omega
          clear hr hrw
          go_wp2_with fail
          go_round
          case rel => exact ⟨k + 1, by omega, by go_num, HX⟩
          case measure => simp [intOf]; omega
    · obtain rfl : k = ls.length := by omega
      have HF : Hid (fewB ls = true) := by
        show _ = _
        rw [fewB_iff]
        refine ⟨?_, fun x hx => ?_⟩
        · rcases Nat.lt_or_ge 40 ls.length with h | h
          · have := (HT.out 40 h h).1; omega
          · exact h
        · obtain ⟨i, hi, rfl⟩ := List.getElem_of_mem hx
          exact (HT.out i hi hi).2
      go_wp2_with fail
      go_ret
      exact ⟨ret_bool HF.out.symm, rfl⟩

/-! Rows. -/

def RowsPost (ls : Rws) (w : World) (e : Ending) (w' : World) : Prop :=
  ∃ v, e = .returned (.tuple #[v, .int .i64 ((longN ls : Nat) : Int)]) ∧ Own w.heap.size w' v (pads ls (longN ls)) ∧ Below w.heap.size w w' ∧ (ls = [] → v = .slice none 0 0)

theorem pads_snoc {ls : Rws} {N k : Nat} (h : k < ls.length) : pads (ls.take (k + 1)) N = pads (ls.take k) N ++ [fillN ls[k] N] := by
  unfold pads
  rw [List.take_succ_eq_append_getElem h, List.map_append]; rfl
theorem pads_len (ls : Rws) (N : Nat) : (pads ls N).length = ls.length := by simp [pads]

theorem max_left {a b : Nat} (h : b ≤ a) : max a b = a := Nat.max_eq_left h
theorem max_right {a b : Nat} (h : a ≤ b) : max a b = b := Nat.max_eq_right h

set_option maxHeartbeats 1000000 in
theorem rows_any (B : Nat) (a : Option Addr) (cap : Nat) (ls : Rws) (w : World) (hB : B ≤ w.heap.size) (hs : Rs B w a cap ls) (hl : ls.length ≤ 1000) (hm : ∀ x ∈ ls, x.length ≤ 1000) :
    Calls Try.prog 8 #[.slice a ls.length cap] w (RowsPost ls w) := by
  have HS := Lib.hid hs
  have HM := Lib.hid hm
  clear hs hm
  go_enter Try.func8, Try.ntmps8
  go_wp2_with fail
  go_loop [4, 10] (fun n i => ∃ k m : Nat, k ≤ ls.length ∧ i = .int .i64 k ∧ m ≤ 1000 ∧ Hid (m = longTo ls k) ∧ n = .int .i64 (m : Int)) (fun _ i => ls.length - (intOf i).toNat)
  case atStart => exact ⟨0, 0, by omega, rfl, by omega, rfl, rfl⟩
  case round =>
    obtain ⟨k, m, hk, rfl, hm1, HT, rfl⟩ := hrel
    by_cases hlt : k < ls.length
    · obtain ⟨b, off, rfl, hb, hr⟩ := HS.out.some hlt
      obtain ⟨ai, ci, hck, hrw⟩ := hr k hlt
      have hx := HM.out _ (List.getElem_mem hlt)
      have HL : Hid (longTo ls (k + 1) = max m ls[k].length) := by show max _ _ = _; rw [HT.out, getR hlt]
      generalize ls[k] = x at *
      clear hr hrw
      go_wp2_with fail
      go_round
      case rel => exact ⟨k + 1, max m x.length, by omega, by go_num, by omega, HL.out.symm, by first | rfl | (congr 1; omega)⟩
      case measure => simp [intOf]; omega
    · obtain rfl : k = ls.length := by omega
      have HN : Hid (longN ls = m) := HT.out.symm
      go_wp2_with fail
      go_loopw [6, 23] (fun v i wr => ∃ k : Nat, k ≤ ls.length ∧ i = .int .i64 k ∧ Hid (Own w.heap.size wr v (pads (ls.take k) m)) ∧ Hid (Below w.heap.size w wr) ∧ Hid (k = 0 → v = .slice none 0 0)) (fun _ i _ => ls.length - (intOf i).toNat)
      case atStart => exact ⟨0, by omega, rfl, Own.nil _ _, Below.refl _ _, fun _ => rfl⟩
      case round =>
        obtain ⟨k, hk2, rfl, HO, HB, HZ⟩ := hrel
        by_cases hlt : k < ls.length
        · obtain ⟨b, off, rfl, hb, hr⟩ := (HS.out.keep hB (Keep.of_below HB.out)).some hlt
          obtain ⟨ai, ci, hck, hrw⟩ := hr k hlt
          have HP := Lib.hid (pads_snoc (N := m) hlt)
          have HSL := Lib.hid hrw.sl
          have HBy := Lib.hid hrw.sl.byte
          have hlen : (pads (ls.take k) m).length ≤ 100000 := by rw [pads_len, List.length_take]; omega
          generalize ls[k] = x at *
          clear hr hrw
          go_wp2_with fail
          refine (fill_any _ _ _ _ _ (by omega) HSL.out).mono ?_
          rintro e w1 ⟨rfl, hn1⟩
          have hb1 := hn1.below
          have HO1 := Lib.hid (HO.out.keep hb1)
          have hrw1 : Rw w.heap.size w1 (some ⟨wr.heap.size, 0, none⟩) m (fillN x m) := by
            have h := hn1
            rw [← fillN_len x m] at h
            have := Rw.of_new (B := w.heap.size) (by rw [fillN_len] at h ⊢; exact h) (fillN_byte HBy.out m) (by rw [fillN_len]; omega)
            rw [fillN_len] at this
            exact this
          have HR1 := Lib.hid hrw1
          have HB1 : Hid (Below w.heap.size w w1) := HB.out.trans (hb1.mono HB.out.size)
          clear hn1 hrw1 HO
          generalize wr.heap.size = g0 at *
          go_wp2_with (at_builtin; refine wpList_push_rows _ rfl _ _ rfl w.heap.size _ _ rfl (HO1.out.keep ((Below.refl _ _).alloc (Nat.le_refl _) _)) w1.heap.size rfl (some ⟨g0, 0, none⟩) m (fillN x m) (by rw [fillN_len]; simp) (HR1.out.below ((Below.refl _ _).alloc (Nat.le_refl _) _)) (by have := HB1.out.size; simp; omega) hlen ?_; intro v' w2 HO2 hk2)
          go_roundw
          case rel => exact ⟨k + 1, by omega, by go_num, by rw [HP.out]; exact HO2, (HB1.out.alloc HB1.out.size _).trans (hk2.below (by have := HB1.out.size; simp; omega)), fun e => absurd e (by omega)⟩
          case measure => simp [intOf]; omega
        · obtain rfl : k = ls.length := by omega
          rw [List.take_length] at HO
          go_wp2_with fail
          go_ret2
          exact ⟨_, by rw [HN.out]; rfl, by rw [HN.out]; exact HO.out, HB.out, fun e => HZ.out (by rw [e]; rfl)⟩
end Go.Proofs.Ytiglmoggpjgmbaa
