/-
  What package replay answers, told; the law's helpers, walked.
-/
import Derived.Test.YtahkjimbmapofaaVec
import Derived.Test.YtahkjimbmapofaaGrid
import Derived.Test.YtahkjimbmapofaaRowsIn
import Derived.Test.YtahkjimbmapofaaInts
import Derived.Test.YtahkjimbmapofaaGrowK
import Derived.Test.YtahkjimbmapofaaFr
import Derived.BigQuiet
import Derived.BigRegion
namespace Go.Proofs.Ytahkjimbmapofaa
open Go.ChangeShapes Go.WideShapes Go.ChangeAt Go.RowKit Go.Joins
set_option linter.unusedVariables false

/-- Worlds that have all that W has. -/
structure Up (W : World) where
  v : World
  h : Fr (fun _ => False) W v
instance up_some (W : World) : Nonempty (Up W) := ⟨⟨W, Fr.refl _ _⟩⟩
theorem up_class {W w : World} (h : Fr (fun _ => False) W w) : ∃ p : Up W, w = p.v := ⟨⟨w, h⟩, rfl⟩
theorem Up.cell {W : World} (p : Up W) {b i : Nat} {v : Value} (h : W.cell? ⟨b, i, none⟩ = some v) : p.v.cell? ⟨b, i, none⟩ = some v :=
  (World.cell?_of_block (a := ⟨b, i, none⟩) (p.h.block b (World.block_lt_of_cell? W _ h) (fun h => h))).trans h

theorem below_drewN {B : Nat} {a w : World} (h : Below B a w) (q : Nat) : Below B a (w.drewN q) := ⟨h.os, h.tape, h.output, h.size, h.block⟩
/-- Are all of one length? -/
def alikeB (ls : Rws) : Bool := ls.all fun x => decide (x.length = (ls.getD 0 []).length)
theorem alikeB_iff {ls : Rws} : alikeB ls = true ↔ ∀ x ∈ ls, x.length = (ls.getD 0 []).length := by simp [alikeB]
/-- Not too many, none too long. -/
def fewC (ls : Rws) : Bool := decide (ls.length ≤ 40) && ls.all fun x => decide (x.length ≤ 100)
theorem fewC_iff {ls : Rws} : fewC ls = true ↔ ls.length ≤ 40 ∧ ∀ x ∈ ls, x.length ≤ 100 := by simp [fewC]
/-- A slot that is there. -/
def inS (m : Nat) (z : Int) : Prop := 0 ≤ z ∧ z < (m : Int)
instance (m : Nat) (z : Int) : Decidable (inS m z) := by unfold inS; infer_instance
/-- Deeds that came in: any numbers. -/
abbrev Dk := List (Int × Int × Nat)
structure Dri (w : World) (a : Option Addr) (cap : Nat) (D : Dk) : Prop where
  rng : ∀ d ∈ D, -9223372036854775808 ≤ d.1 ∧ d.1 ≤ 9223372036854775807 ∧ -9223372036854775808 ≤ d.2.1 ∧ d.2.1 ≤ 9223372036854775807 ∧ d.2.2 < 256
  len : D.length ≤ cap
  most : cap ≤ maxLen
  none : a = none → D = [] ∧ cap = 0
  here : D = [] ∨ ∃ b off, a = some ⟨b, off, Option.none⟩ ∧ b < w.heap.size ∧ ∀ i (h : i < D.length), w.cell? ⟨b, off + i * 3, Option.none⟩ = some (.int .i64 D[i].1) ∧ w.cell? ⟨b, off + i * 3 + 1, Option.none⟩ = some (.int .i64 D[i].2.1) ∧ w.cell? ⟨b, off + i * 3 + 2, Option.none⟩ = some (.int .u8 ((D[i].2.2 : Nat) : Int))
/-- One deed, done to rows. -/
def deedR (b : Rws) (d : Int × Int × Nat) : Rws := b.set d.1.toNat (if d.1 = d.2.1 then scaleN (b.getD d.1.toNat []) d.2.2 else plusN (b.getD d.1.toNat []) (b.getD d.2.1.toNat []) d.2.2)
def playR (D : Dk) (b : Rws) : Rws := D.foldl deedR b
/-- Deeds whose slots are there. -/
def deedsIn (m : Nat) (D : Dk) : Prop := ∀ d ∈ D, inS m d.1 ∧ inS m d.2.1
instance (m : Nat) (D : Dk) : Decidable (deedsIn m D) := by unfold deedsIn; infer_instance
def slotsIn (m : Nat) (Wh : List Int) : Prop := ∀ x ∈ Wh, inS m x
instance (m : Nat) (Wh : List Int) : Decidable (slotsIn m Wh) := by unfold slotsIn; infer_instance

/-- What package replay answers; Bd B w b rows: block b is a board of these rows, all of it from block B on. -/
structure RepC (Bd : Nat → World → Nat → Rws → Prop) : Prop where
  keep : ∀ {B : Nat} {w w' : World} {b : Nat} {rows : Rws}, Bd B w b rows → Below w.heap.size w w' → Bd B w' b rows
  base : ∀ {B : Nat} {w : World} {b : Nat} {rows : Rws}, Bd B w b rows → B ≤ w.heap.size
  new : ∀ (a : Option Addr) (cap : Nat) (rows : Rws) (w : World), Rs w.heap.size w a cap rows → fewC rows = true → alikeB rows = true →
    Calls Try.prog 10 #[.slice a rows.length cap] w fun e w' => ∃ b, e = .returned (.tuple #[.pointer (some ⟨b, 0, none⟩), .int .i64 0]) ∧ Bd w.heap.size w' b rows ∧ Below w.heap.size w w'
  newBad : ∀ (a : Option Addr) (cap : Nat) (rows : Rws) (w : World), Rs w.heap.size w a cap rows → fewC rows = true → alikeB rows = false →
    Calls Try.prog 10 #[.slice a rows.length cap] w fun e w' => e = .returned (.tuple #[.pointer none, .int .i64 1]) ∧ Below w.heap.size w w'
  add : ∀ (B : Nat) (w : World) (b : Nat) (rows : Rws) (t f c : Nat), Bd B w b rows → fewC rows = true → alikeB rows = true → t < rows.length → f < rows.length → t ≠ f → c < 256 →
    Calls Try.prog 12 #[.pointer (some ⟨b, 0, none⟩), .int .i64 (t : Int), .int .i64 (f : Int), .int .u8 (c : Int)] w fun e w' => e = .returned (.int .i64 0) ∧ Bd B w' b (rows.set t (plusN (rows.getD t []) (rows.getD f []) c)) ∧ Below B w w'
  addBad : ∀ (B : Nat) (w : World) (b : Nat) (rows : Rws) (t f : Int) (c : Nat), Bd B w b rows → fewC rows = true → -9223372036854775808 ≤ t ∧ t ≤ 9223372036854775807 → -9223372036854775808 ≤ f ∧ f ≤ 9223372036854775807 → c < 256 → ¬ (inS rows.length t ∧ inS rows.length f ∧ t ≠ f) →
    Calls Try.prog 12 #[.pointer (some ⟨b, 0, none⟩), .int .i64 t, .int .i64 f, .int .u8 (c : Int)] w fun e w' => e = .returned (.int .i64 1) ∧ Bd B w' b rows ∧ Below B w w'
  scale : ∀ (B : Nat) (w : World) (b : Nat) (rows : Rws) (t c : Nat), Bd B w b rows → fewC rows = true → t < rows.length → c < 256 →
    Calls Try.prog 11 #[.pointer (some ⟨b, 0, none⟩), .int .i64 (t : Int), .int .u8 (c : Int)] w fun e w' => e = .returned (.int .i64 0) ∧ Bd B w' b (rows.set t (scaleN (rows.getD t []) c)) ∧ Below B w w'
  scaleBad : ∀ (B : Nat) (w : World) (b : Nat) (rows : Rws) (t : Int) (c : Nat), Bd B w b rows → fewC rows = true → -9223372036854775808 ≤ t ∧ t ≤ 9223372036854775807 → c < 256 → ¬ inS rows.length t →
    Calls Try.prog 11 #[.pointer (some ⟨b, 0, none⟩), .int .i64 t, .int .u8 (c : Int)] w fun e w' => e = .returned (.int .i64 1) ∧ Bd B w' b rows ∧ Below B w w'
  slot : ∀ (B : Nat) (w : World) (b : Nat) (rows : Rws) (n : Nat) (h : n < rows.length), Bd B w b rows → fewC rows = true →
    Calls Try.prog 13 #[.pointer (some ⟨b, 0, none⟩), .int .i64 (n : Int)] w fun e w' => ∃ sa sc, e = .returned (.slice sa rows[n].length sc) ∧ Sl w' sa sc rows[n] ∧ Below w.heap.size w w'
  slotBad : ∀ (B : Nat) (w : World) (b : Nat) (rows : Rws) (n : Int), Bd B w b rows → fewC rows = true → -9223372036854775808 ≤ n ∧ n ≤ 9223372036854775807 → ¬ inS rows.length n →
    Calls Try.prog 13 #[.pointer (some ⟨b, 0, none⟩), .int .i64 n] w fun e w' => ∃ sa sc, e = .returned (.slice sa 0 sc) ∧ Below w.heap.size w w'
  nilAdd : ∀ (w : World) (t f : Int) (c : Nat), -9223372036854775808 ≤ t ∧ t ≤ 9223372036854775807 → -9223372036854775808 ≤ f ∧ f ≤ 9223372036854775807 → c < 256 →
    Calls Try.prog 12 #[.pointer none, .int .i64 t, .int .i64 f, .int .u8 (c : Int)] w fun e w' => e = .returned (.int .i64 1) ∧ Below w.heap.size w w'
  nilScale : ∀ (w : World) (t : Int) (c : Nat), -9223372036854775808 ≤ t ∧ t ≤ 9223372036854775807 → c < 256 →
    Calls Try.prog 11 #[.pointer none, .int .i64 t, .int .u8 (c : Int)] w fun e w' => e = .returned (.int .i64 1) ∧ Below w.heap.size w w'
  nilSlot : ∀ (w : World) (t : Int), -9223372036854775808 ≤ t ∧ t ≤ 9223372036854775807 →
    Calls Try.prog 13 #[.pointer none, .int .i64 t] w fun e w' => ∃ sa sc, e = .returned (.slice sa 0 sc) ∧ Below w.heap.size w w'
/-- What Play answers. -/
structure PlayC : Prop where
  good : ∀ (da : Option Addr) (dc : Nat) (D : Dk) (wa : Option Addr) (wc : Nat) (Wh : List Int) (a : Option Addr) (cap : Nat) (rows : Rws) (w : World), Dri w da dc D → Is w wa wc Wh → Rs w.heap.size w a cap rows → fewC rows = true → D.length ≤ 200 → Wh.length ≤ 100 →
    alikeB rows = true → deedsIn rows.length D → slotsIn rows.length Wh →
    Calls Try.prog 7 #[.agg #[.slice da D.length dc, .slice wa Wh.length wc], .slice a rows.length cap] w fun e w' => ∃ oa oc, e = .returned (.tuple #[.slice oa Wh.length oc, .int .i64 0]) ∧ Rs w'.heap.size w' oa oc (Wh.map fun x => (playR D rows).getD x.toNat []) ∧ Below w.heap.size w w'
  bad : ∀ (da : Option Addr) (dc : Nat) (D : Dk) (wa : Option Addr) (wc : Nat) (Wh : List Int) (a : Option Addr) (cap : Nat) (rows : Rws) (w : World), Dri w da dc D → Is w wa wc Wh → Rs w.heap.size w a cap rows → fewC rows = true → D.length ≤ 200 → Wh.length ≤ 100 →
    ¬ (alikeB rows = true ∧ deedsIn rows.length D ∧ slotsIn rows.length Wh) →
    Calls Try.prog 7 #[.agg #[.slice da D.length dc, .slice wa Wh.length wc], .slice a rows.length cap] w fun e w' => ∃ oa oc, e = .returned (.tuple #[.slice oa 0 oc, .int .i64 1]) ∧ Below w.heap.size w w'

set_option maxHeartbeats 400000 in
theorem few12_any (B : Nat) (a : Option Addr) (cap : Nat) (ls : Rws) (w : World) (hs : Rs B w a cap ls) :
    Calls Try.prog 6 #[.slice a ls.length cap] w fun e w' => e = .returned (.bool (fewC ls)) ∧ w = w' := by
  have HS := Lib.hid hs
  have hlm := hs.lt
  clear hs
  go_enter Try.func6, Try.ntmps6
  go_wp2_with fail
  go_loop [6] (fun i => ∃ k : Nat, k ≤ ls.length ∧ i = .int .i64 k ∧ Hid (∀ j (h : j < ls.length), j < k → j < 40 ∧ ls[j].length ≤ 100)) (fun i => ls.length - (intOf i).toNat)
  case atStart => exact ⟨0, by omega, rfl, fun j _ hj => by omega⟩
  case round =>
    obtain ⟨k, hk, rfl, HT⟩ := hrel
    by_cases hlt : k < ls.length
    · obtain ⟨b, off, rfl, hB, hr⟩ := HS.out.some hlt
      obtain ⟨ai, ci, hck, hrw⟩ := hr k hlt
      have hsl := hrw.sl.lt
      by_cases h40 : 40 ≤ k
      · have HF : Hid (fewC ls = false) := by
          show _ = _
          rw [Bool.eq_false_iff]
          intro h
          have := (fewC_iff.1 h).1
          omega
        have hd : decide ((40 : Int) ≤ (k : Int)) = true := by simp; omega
        clear hr hrw
        go_wp2_with fail
        go_ret
        exact ⟨ret_bool HF.out.symm, rfl⟩
      · have hd : decide ((40 : Int) ≤ (k : Int)) = false := by simp; omega
        have hd2 : ¬ (40 : Int) ≤ (k : Int) := by omega
        by_cases hbig : 100 < ls[k].length
        · have HF : Hid (fewC ls = false) := by
            show _ = _
            rw [Bool.eq_false_iff]
            intro h
            have := (fewC_iff.1 h).2 _ (List.getElem_mem hlt)
            omega
          generalize ls[k] = x at *
          have hd3 : (100 : Int) < (x.length : Int) := by omega
          clear hr hrw
          go_wp2_with fail
          go_ret
          exact ⟨ret_bool HF.out.symm, rfl⟩
        · have HX : Hid (∀ j (h : j < ls.length), j < k + 1 → j < 40 ∧ ls[j].length ≤ 100) := fun j h hj => by
            by_cases e : j = k
            · subst e; exact ⟨by omega, by omega⟩
            · exact HT.out j h (by omega)
          generalize ls[k] = x at *
          have hd3 : ¬ (100 : Int) < (x.length : Int) := by omega
          clear hr hrw
          go_wp2_with fail
          go_round
          case rel => exact ⟨k + 1, by omega, by go_num, HX⟩
          case measure => simp [intOf]; omega
    · obtain rfl : k = ls.length := by omega
      have HF : Hid (fewC ls = true) := by
        show _ = _
        rw [fewC_iff]
        refine ⟨?_, fun x hx => ?_⟩
        · rcases Nat.lt_or_ge 40 ls.length with h | h
          · have := (HT.out 40 h h).1; omega
          · exact h
        · obtain ⟨i, hi, rfl⟩ := List.getElem_of_mem hx
          exact (HT.out i hi hi).2
      go_wp2_with fail
      go_ret
      exact ⟨ret_bool HF.out.symm, rfl⟩

set_option maxRecDepth 100000 in
set_option maxHeartbeats 1000000 in
theorem alike_any (B : Nat) (a : Option Addr) (cap : Nat) (ls : Rws) (w : World) (hB : B ≤ w.heap.size) (hs : Rs B w a cap ls) :
    Calls Try.prog 8 #[.slice a ls.length cap] w fun e w' => e = .returned (.bool (alikeB ls)) ∧ Below w.heap.size w w' := by
  have HS := Lib.hid hs
  have hlm := hs.lt
  clear hs
  have HB0 : Hid (Below w.heap.size w w) := Below.refl _ _
  go_enter Try.func8, Try.ntmps8
  go_wp2_with fail
  go_loopw [6] (fun i wr => ∃ k : Nat, k ≤ ls.length ∧ i = .int .i64 k ∧ Hid (∀ j (h : j < ls.length), j < k → ls[j].length = (ls.getD 0 []).length) ∧ Hid (Below w.heap.size w wr)) (fun i _ => ls.length - (intOf i).toNat)
  case atStart => exact ⟨0, by omega, rfl, fun j _ hj => by omega, HB0⟩
  case round =>
    obtain ⟨k, hk, rfl, HT, HB⟩ := hrel
    clear HB0
    by_cases hlt : k < ls.length
    · obtain ⟨b, off, rfl, hbB, hr⟩ := HS.out.some hlt
      obtain ⟨ai, ci, hck, hrw⟩ := hr k hlt
      obtain ⟨az, cz, hcz, hrwz⟩ := hr 0 (by omega)
      have hck' := (HB.out.cell (p := ⟨b, off + k, none⟩) (by show b < _; omega)).trans hck
      have hcz' := (HB.out.cell (p := ⟨b, off + 0, none⟩) (by show b < _; omega)).trans hcz
      rw [Nat.add_zero] at hcz'
      have hl1 := hrw.sl.lt
      have hl2 := hrwz.sl.lt
      have hkz : (k : Int) < (ls.length : Int) := by omega
      have h0z : (0 : Int) < (ls.length : Int) := by omega
      have hg : ls.getD 0 [] = ls[0] := getR (by omega)
      have HG := Lib.hid hg
      have HBN : Hid (Below w.heap.size w wr.drew) := HB.out.drew
      by_cases he : ls[k].length = ls[0].length
      · have HX : Hid (∀ j (h : j < ls.length), j < k + 1 → ls[j].length = (ls.getD 0 []).length) := fun j h hj => by
          by_cases e : j = k
          · subst e; rw [HG.out]; exact he
          · exact HT.out j h (by omega)
        rw [he] at hck'
        clear hr hrw hrwz hck hcz hg he
        generalize ls[0] = x0 at *
        generalize ls[k] = x at *
        have hne : ((x0.length : Int) != (x0.length : Int)) = false := by simp
        go_wp2_with fail
        go_quiet (fail)
        go_wp2_with fail
        go_roundw
        case rel => exact ⟨k + 1, by omega, by go_num, HX, by first | exact HBN | exact HB | exact below_drewN HB.out _⟩
        case measure => simp [intOf]; omega
      · have HF : Hid (alikeB ls = false) := by
          show _ = _
          rw [Bool.eq_false_iff]
          intro h
          exact he (by rw [← HG.out]; exact alikeB_iff.1 h _ (List.getElem_mem hlt))
        clear hr hrw hrwz hck hcz hg
        generalize ls[0] = x0 at *
        generalize ls[k] = x at *
        have hne : ((x.length : Int) != (x0.length : Int)) = true := by simp; omega
        go_wp2_with fail
        go_quiet (fail)
        go_wp2_with fail
        go_ret
        exact ⟨ret_bool HF.out.symm, by first | exact HBN.out | exact HB.out | exact below_drewN HB.out _⟩
    · obtain rfl : k = ls.length := by omega
      have HF : Hid (alikeB ls = true) := by
        show _ = _
        rw [alikeB_iff]
        intro x hx
        obtain ⟨i, hi, rfl⟩ := List.getElem_of_mem hx
        exact HT.out i hi hi
      go_wp2_with fail
      go_ret
      exact ⟨ret_bool HF.out.symm, HB.out⟩
end Go.Proofs.Ytahkjimbmapofaa
