/-
  Whether they are equations: package peel's Right, and the document's.
-/
import Derived.Test.YticppgopblgkbaaEqsIn
import Derived.Test.YticppgopblgkbaaFr
import Derived.Deep.LoopGhost
namespace Go.Proofs.Yticppgopblgkbaa
open Go.ChangeShapes Go.WideShapes Go.ChangeAt Go.RowKit Go.Joins
set_option linter.unusedVariables false

theorem infoB : (Try.prog.info? 4).map (fun i => (i.zero, i.size, i.bytes)) = some (some (.bool false), 1, 1) := by kernel_rfl
def bV (f : Nat → Bool) (j : Nat) : Value := .bool (f j)
set_option maxRecDepth 100000 in
theorem make_bools (n : Nat) (hn : n ≤ 1000000) (w : World) : (Instr.makeSlice 41 (.int .i64 (n : Int)) (.int .i64 (n : Int))).run Try.prog w = .ok (.slice (some ⟨w.heap.size, 0, none⟩) n n) (w.alloc (.cells (rowArr n (bV fun _ => false)) 4)) := by
  have h := run_make_row' (P := Try.prog) 41 4 (.bool false) 1 Try.underlying41 infoB rfl .i64 .i64 n (by omega) (by omega) w
  rw [h]
  congr 3
  apply Array.ext
  · simp [madeCells, rowArr]
  · intro i h1 h2
    simp [madeCells, rowArr, bV, Nat.mod_one]

theorem Row.set_eq {w : World} {B : Nat} {ty : TypeId} {n : Nat} {g f : Nat → Value} (h : Row w B ty n n g) (k : Nat) (hk : k < n) (v : Value) (hf : ∀ j, j < n → f j = if j = k then v else g j) : Row (w.setCell ⟨B, k, none⟩ v) B ty n n f :=
  (h.upd k hk v).mono (Nat.le_refl _) fun j hj => (hf j hj).symm

theorem ret_bool {a b : Bool} (h : a = b) : Ending.returned (.bool a) = .returned (.bool b) := by rw [h]
/-- Which places the first k cells have. -/
def seenB (l : Cz) (k j : Nat) : Bool := (l.take k).any fun c => c.1 == (j : Int)
theorem seenB_start (l : Cz) (j : Nat) : seenB l 0 j = false := rfl
theorem seenB_next {l : Cz} {k : Nat} (h : k < l.length) (p j : Nat) (hp : l[k].1 = (p : Int)) : seenB l (k + 1) j = if j = p then true else seenB l k j := by
  unfold seenB
  rw [List.take_succ_eq_append_getElem h, List.any_append]
  by_cases e : j = p
  · subst e; simp [hp]
  · have : (l[k].1 == (j : Int)) = false := by rw [hp]; simp; omega
    rw [if_neg e]
    simp [this]
theorem seenB_iff {l : Cz} {k : Nat} (hk : k ≤ l.length) (p : Nat) : seenB l k p = false ↔ ∀ j, (hj : j < k) → l[j].1 ≠ (p : Int) := by
  unfold seenB
  rw [List.any_eq_false]
  constructor
  · intro h j hj
    have hjt : j < (l.take k).length := by rw [List.length_take]; omega
    have := h _ (List.getElem_mem hjt)
    rw [List.getElem_take] at this
    simpa using this
  · intro h c hc
    obtain ⟨j, hj, rfl⟩ := List.getElem_of_mem hc
    rw [List.getElem_take]
    have := h j (by rw [List.length_take] at hj; omega)
    simpa using this

theorem eqOk_not {n : Int} {l : Cz} {k : Nat} (h : k < l.length) (hn : ¬ ((0 ≤ l[k].1 ∧ l[k].1 < n ∧ l[k].2 ≠ 0) ∧ ∀ j, (hj : j < k) → l[j].1 ≠ l[k].1)) : decide (EqOk n l) = false := by
  rw [decide_eq_false_iff_not]
  intro h1
  exact hn ((eqOk_next h).1 (h1.take (k + 1))).2

structure SeenAt (w wr : World) (g n : Nat) (l : Cz) (k : Nat) : Prop where
  row : Row wr g 4 n n (bV (seenB l k))
  low : Below w.heap.size w wr

set_option maxRecDepth 100000 in
set_option maxHeartbeats 2000000 in
theorem right1_any (a : Option Addr) (cap : Nat) (l : Cz) (n : Nat) (hn : n ≤ 256) (w : World) (hs : Cr w a cap l) :
    Calls Try.prog 10 #[.slice a l.length cap, .int .i64 (n : Int)] w fun e w' => e = .returned (.bool (decide (EqOk n l))) ∧ Below w.heap.size w w' := by
  have HS := Lib.hid hs
  have hlm := hs.lt
  have hmk := make_bools n (by omega) w
  have HA0 : Hid (SeenAt w (w.alloc (.cells (rowArr n (bV fun _ => false)) 4)) w.heap.size n l 0) := ⟨Row.new_whole w _ 4 (bV (seenB l 0)) _ _ rfl rfl, (Below.refl _ _).alloc (Nat.le_refl _) _⟩
  have HO0 : Hid (EqOk n (l.take 0)) := EqOk.nil _
  clear hs
  go_enter Try.func10, Try.ntmps10
  go_wp2_with fail
  obtain ⟨g, hg⟩ : ∃ g, g = w.heap.size := ⟨_, rfl⟩
  have hgw : w.heap.size ≤ g := by omega
  rw [← hg] at HA0 ⊢
  generalize w.alloc (.cells (rowArr n (bV fun _ => false)) 4) = w0 at *
  clear hg hmk
  go_loopw [12] (fun i wr => ∃ k : Nat, k ≤ l.length ∧ i = .int .i64 k ∧ Hid (EqOk n (l.take k)) ∧ Hid (SeenAt w wr g n l k)) (fun i _ => l.length - (intOf i).toNat)
  case atStart => exact ⟨0, by omega, rfl, HO0, HA0⟩
  case round =>
    obtain ⟨k, hk, rfl, HO, HA⟩ := hrel
    clear HA0 HO0
    by_cases hlt : k < l.length
    · obtain ⟨b, off, rfl, hb, hc⟩ := (HS.out.below HA.out.low).some hlt
      obtain ⟨c0, c1⟩ := hc k hlt
      obtain ⟨r1, r2, r3⟩ := HS.out.rng _ (List.getElem_mem hlt)
      have HN := Lib.hid (fun h => eqOk_not (n := n) (l := l) hlt h)
      have HX := Lib.hid (eqOk_next (n := n) hlt)
      have HT := Lib.hid (seenB_next hlt)
      have HI := Lib.hid (seenB_iff (l := l) (k := k) hk)
      obtain ⟨⟨z, y⟩, hzy⟩ : ∃ x, x = l[k] := ⟨_, rfl⟩
      rw [← hzy] at c0 c1 r1 r2 r3 HN HX HT
      simp only at c0 c1 r1 r2 r3 HN HX HT
      have b0 : b < wr.heap.size := World.block_lt_of_cell? wr _ c0
      clear hc hzy
      by_cases z0 : z < 0
      · have HF : Hid (decide (EqOk (n : Int) l) = false) := HN.out fun h => by omega
        have d1 : decide (z < 0) = true := by simp; omega
        have d2 : (!decide (z < 0)) = false := by rw [d1]; rfl
        go_wp2_with fail
        go_ret
        exact ⟨ret_bool HF.out.symm, HA.out.low.alloc HA.out.low.size _⟩
      · have d2 : decide (z < 0) = false := by simp; omega
        by_cases zn : (n : Int) ≤ z
        · have HF : Hid (decide (EqOk (n : Int) l) = false) := HN.out fun h => by omega
          have e1 : decide ((n : Int) ≤ z) = true := by simp; omega
          go_wp2_with fail
          go_ret
          exact ⟨ret_bool HF.out.symm, HA.out.low.alloc HA.out.low.size _⟩
        · have e1 : decide ((n : Int) ≤ z) = false := by simp; omega
          by_cases y0 : y = 0
          · subst y0
            have HF : Hid (decide (EqOk (n : Int) l) = false) := HN.out fun h => by omega
            go_wp2_with fail
            go_ret
            exact ⟨ret_bool HF.out.symm, HA.out.low.alloc HA.out.low.size _⟩
          · have f1 : ((y : Int) == 0) = false := by simp; omega
            obtain ⟨p, rfl⟩ : ∃ p : Nat, z = (p : Int) := ⟨z.toNat, by omega⟩
            have hpn : p < n := by omega
            have c2 := HA.out.row.cell p hpn
            have f2 := HA.out.row.loose p
            have g2 := HA.out.row.lt
            unfold bV at c2
            by_cases hsn : seenB l k p = true
            · have HF : Hid (decide (EqOk (n : Int) l) = false) := HN.out fun h => by
                have := (HI.out p).2 h.2
                rw [hsn] at this
                cases this
              rw [hsn] at c2
              go_wp2_with fail
              go_ret
              exact ⟨ret_bool HF.out.symm, HA.out.low.alloc HA.out.low.size _⟩
            · have hsn2 : seenB l k p = false := by simpa using hsn
              have HO2 : Hid (EqOk (n : Int) (l.take (k + 1))) := HX.out.2 ⟨HO.out, ⟨by omega, by omega, by omega⟩, (HI.out p).1 hsn2⟩
              have HT2 := Lib.hid (fun j => HT.out p j rfl)
              rw [hsn2] at c2
              clear HO HX HI HN HT
              go_wp2_with fail
              go_roundw
              case rel => exact ⟨k + 1, by omega, by go_num, HO2, ⟨(HA.out.row.set_eq (f := bV (seenB l (k + 1))) p hpn (.bool true) fun j hj => by unfold bV; rw [HT2.out j]; split <;> rfl).alloc _, (HA.out.low.setCell (p := ⟨g, p, none⟩) hgw (.bool true)).alloc (by have := HA.out.low.size; simpa using this) _⟩⟩
              case measure => simp [intOf]; omega
    · obtain rfl : k = l.length := by omega
      have HF : Hid (decide (EqOk (n : Int) l) = true) := by
        show _ = _
        rw [decide_eq_true_iff]
        have := HO.out
        rwa [List.take_length] at this
      go_wp2_with fail
      go_ret
      exact ⟨ret_bool HF.out.symm, HA.out.low⟩
end Go.Proofs.Yticppgopblgkbaa
