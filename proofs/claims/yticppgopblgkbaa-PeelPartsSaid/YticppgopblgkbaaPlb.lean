/-
  The open unknowns of an equation, walked.
-/
import Derived.Test.YticppgopblgkbaaPla
namespace Go.Proofs.Yticppgopblgkbaa
open Go.ChangeShapes Go.WideShapes Go.ChangeAt Go.RowKit Go.Joins
set_option linter.unusedVariables false

theorem row_of_own {B : Nat} {w : World} {v : Value} {l : List Nat} (hl : l ≠ []) (h : OwnN B w v l) :
    ∃ g cap, v = .slice (some ⟨g, 0, none⟩) l.length cap ∧ Row w g 3 cap l.length (lV l) ∧ l.length ≤ cap ∧ cap ≤ maxLen ∧ B ≤ g := by
  rcases h.2 with ⟨_, h0⟩ | ⟨g, cap, cur, hv, hB, hh, h1, h2, h3, h4⟩
  · exact absurd (List.eq_nil_of_length_eq_zero h0) hl
  · refine ⟨g, cap, hv, ⟨cur, hh, by omega, fun j hj => ?_⟩, h1, h2, hB⟩
    rw [lV_get hj]
    have := congrArg (fun x => x[j]?) h4
    simp only [encN, List.getElem?_map] at this
    rw [List.getElem?_take, if_pos (by omega)] at this
    simpa [hj] using this
theorem OwnN.below {B : Nat} {w w' : World} {v : Value} {l : List Nat} (h : OwnN B w v l) (k : Below w.heap.size w w') : OwnN B w' v l := by
  refine World.ownsRow.kept (row := none) h ⟨k.os, k.tape, k.output, k.size, fun j hj _ => k.block j hj⟩ ?_
  cases hv : v.ownBlock with
  | none => exact .inl rfl
  | some g => exact .inr (by simp)
theorem OwnN.push_below {B : Nat} {w w' : World} {v : Value} {l : List Nat} (h : OwnN B w v l) (hg : w.grownBy w' v.ownBlock) (hB : B ≤ w.heap.size) : Below B w w' :=
  ⟨hg.os, hg.tape, hg.output, hg.size, fun k hk => hg.block k (by omega) fun e => by
    have := (World.ownsRow.lt h k e.symm).1; omega⟩

set_option maxRecDepth 100000 in
set_option maxHeartbeats 4000000 in
theorem openPlaces_any (a : Option Addr) (cap : Nat) (l : Cz) (ob n : Nat) (opn : Nat → Bool) (hn : n ≤ 1000) (w : World) (hs : Cr w a cap l) (ho : Row w ob 4 n n (bV opn)) (hr : ∀ c ∈ l, 0 ≤ c.1 ∧ c.1 < (n : Int)) (hl : l.length ≤ 1000000) (hne : openTo opn l l.length ≠ []) :
    Calls Try.prog 15 #[.slice a l.length cap, .slice (some ⟨ob, 0, none⟩) n n] w fun e w' =>
      ∃ g cp P, e = .returned (.slice (some ⟨g, 0, none⟩) P.length cp) ∧ P.Perm (openTo opn l l.length) ∧ Row w' g 3 cp P.length (lV P) ∧ P.length ≤ cp ∧ cp ≤ maxLen ∧ w.heap.size ≤ g ∧ Below w.heap.size w w' := by
  have HS := Lib.hid hs
  have HO := Lib.hid ho
  have hlt0 := ho.lt
  have HO0 : Hid (OwnN w.heap.size w (.slice none 0 0) (openTo opn l 0)) := OwnN.nil _ _
  have HB0 : Hid (Below w.heap.size w w) := Below.refl _ _
  clear hs ho
  go_enter Try.func15, Try.ntmps15
  go_wp2_with fail
  go_loopw [5, 10] (fun v i wr => ∃ k : Nat, k ≤ l.length ∧ i = .int .i64 k ∧ Hid (OwnN w.heap.size wr v (openTo opn l k)) ∧ Hid (Below w.heap.size w wr)) (fun _ i _ => l.length - (intOf i).toNat)
  case atStart => exact ⟨0, by omega, rfl, HO0, HB0⟩
  case round =>
    obtain ⟨k, hk, rfl, HN, HB⟩ := hrel
    clear HB0 HO0
    by_cases hlt : k < l.length
    · obtain ⟨b, off, rfl, hb, hc⟩ := (HS.out.below HB.out).some hlt
      obtain ⟨c0, c1⟩ := hc k hlt
      obtain ⟨r1, r2⟩ := hr _ (List.getElem_mem hlt)
      have HX := Lib.hid (openTo_next (opn := opn) hlt)
      obtain ⟨p, hp⟩ : ∃ p : Nat, l[k].1 = (p : Int) := ⟨l[k].1.toNat, by omega⟩
      obtain ⟨y, hy⟩ : ∃ y : Nat, y = l[k].2 := ⟨_, rfl⟩
      have hpt : l[k].1.toNat = p := by omega
      rw [hpt] at HX
      rw [hp] at c0 r2
      rw [← hy] at c1
      have b0 : b < wr.heap.size := World.block_lt_of_cell? wr _ c0
      have hpn : p < n := by omega
      have c2 := (HB.out.cell (p := ⟨ob, p, none⟩) hlt0).trans (HO.out.cell p hpn)
      have b2 : ob < wr.heap.size := Nat.lt_of_lt_of_le hlt0 HB.out.size
      unfold bV at c2
      have hlen := openTo_len opn l k
      clear hc hp hy hpt r1
      obtain ⟨W1, rfl⟩ : ∃ x, x = wr := ⟨_, rfl⟩
      have HA := Lib.hid ((HN.out.below ((Below.refl _ _).alloc (Nat.le_refl _) (.cells #[.int .i64 (p : Int), .int .u8 (y : Int)] 38))).below ((Below.refl _ _).alloc (Nat.le_refl _) (.cells #[.int .i64 (p : Int)] 3)))
      have HBA := Lib.hid ((HB.out.alloc HB.out.size (.cells #[.int .i64 (p : Int), .int .u8 (y : Int)] 38)).alloc (by have := HB.out.size; simp; omega) (.cells #[.int .i64 (p : Int)] 3))
      by_cases hop : opn p = true
      · have HX2 : Hid (openTo opn l (k + 1) = openTo opn l k ++ [p]) := by rw [if_pos hop] at HX; exact HX.out
        rw [hop] at c2
        clear HX hop
        go_wp2_with (at_builtin; refine wpList_push_n _ rfl _ _ rfl w.heap.size _ _ rfl HA.out (W1.heap.size + 1) rfl p (by simp) (by have := HBA.out.size; omega) (by omega) ?_; intro v' w2 h1 h2 h3; have HB2 := Lib.hid (HBA.out.trans (HA.out.push_below h2.out HBA.out.size)); clear h2 h3)
        go_roundw
        case rel => exact ⟨k + 1, by omega, by go_num, by rw [HX2.out]; exact h1, HB2⟩
        case measure => simp [intOf]; omega
      · have hop2 : opn p = false := by simpa using hop
        have HX2 : Hid (openTo opn l (k + 1) = openTo opn l k) := by rw [if_neg hop, List.append_nil] at HX; exact HX.out
        rw [hop2] at c2
        have HA1 := Lib.hid (HN.out.below ((Below.refl _ _).alloc (Nat.le_refl _) (.cells #[.int .i64 (p : Int), .int .u8 (y : Int)] 38)))
        have HB1 := Lib.hid (HB.out.alloc HB.out.size (.cells #[.int .i64 (p : Int), .int .u8 (y : Int)] 38))
        clear HX hop HA HBA HN
        go_wp2_with fail
        go_roundw
        case rel => exact ⟨k + 1, by omega, by go_num, by rw [HX2.out]; exact HA1, HB1⟩
        case measure => simp [intOf]; omega
    · obtain rfl : k = l.length := by omega
      obtain ⟨g, cp, rfl, hrow, h1, h2, h3⟩ := row_of_own hne HN.out
      have hlen := openTo_len opn l l.length
      have HST := Lib.hid (sort_ints g cp _ wr hrow (by omega))
      obtain ⟨P, hP⟩ : ∃ P, P = openTo opn l l.length := ⟨_, rfl⟩
      rw [← hP] at hrow h1 hlen HST ⊢
      have HPE := Lib.hid hP
      clear hP
      have hcp : P.length ≤ maxLen := by omega
      clear hrow HN
      go_wp2_with fail
      (with_reducible refine HST.out.mono ?_)
      rintro e w2 ⟨rfl, P', hp, hrow, hf⟩
      have HP := Lib.hid hp
      have HR := Lib.hid hrow
      have HF := Lib.hid (HB.out.trans (hf.below HB.out.size fun b hb e => by omega))
      have hpl : P.length = P'.length := hp.length_eq.symm
      clear hp hrow hf HST
      go_wp2_with fail
      go_ret
      exact ⟨g, cp, P', rfl, by rw [← HPE.out]; exact HP.out, by rw [← hpl]; exact HR.out, by omega, h2, h3, HF.out⟩
end Go.Proofs.Yticppgopblgkbaa
