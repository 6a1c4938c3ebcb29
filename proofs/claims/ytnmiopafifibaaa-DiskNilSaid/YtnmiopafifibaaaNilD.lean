/-
  The law DiskNil, walked.
-/
import Derived.Test.YtnmiopafifibaaaNilC
namespace Go.Proofs.Ytnmiopafifibaaa.diskNil
open Go.ChangeShapes Go.WideShapes Go.ChangeAt Go.RowKit
set_option linter.unusedVariables false

theorem bcell {W w1 : World} (hb : Below W.heap.size W w1) : (∀ b o, b < W.heap.size → w1.cell? ⟨b, o, none⟩ = W.cell? ⟨b, o, none⟩) ∧ (∀ b o, b < W.heap.size → w1.frozen? ⟨b, o, none⟩ = W.frozen? ⟨b, o, none⟩) :=
  ⟨fun b o h => hb.cell (p := ⟨b, o, none⟩) h, fun b o h => hb.frozen (p := ⟨b, o, none⟩) h⟩

/-- One act in a new block. -/
theorem few_one (x : ActV) (hx : x.small) (w : World) :
    Calls Try.prog 7 #[.slice (some ⟨w.heap.size, 0, none⟩) 1 1, .int .i64 1] (w.alloc (.cells #[.int .u8 x.kind, .string x.a, .string x.b, .int .i64 x.n, .slice x.da x.dl x.dc, .slice x.ka x.kl x.kc] 33))
      fun e w' => (∃ r : Bool, e = .returned (.bool r)) ∧ Below w.heap.size w w' := by
  refine (few_any w.heap.size 0 1 [x] 1 (by omega) (by omega) _ (by unfold maxLen; simp) (by simpa using hx) ?_).mono ?_
  · intro i hi
    have : i = 0 := by simpa using hi
    subst this
    simp
  · rintro e w' ⟨rfl, n, rfl⟩
    exact ⟨⟨_, rfl⟩, below_drewN (below1 _ _) n⟩

/-- An act's six cells in a block. -/
def BoxAt (w : World) (b : Nat) (x : ActV) : Prop :=
  w.cell? ⟨b, 0, none⟩ = some (.int .u8 x.kind) ∧ w.cell? ⟨b, 1, none⟩ = some (.string x.a) ∧ w.cell? ⟨b, 2, none⟩ = some (.string x.b) ∧
    w.cell? ⟨b, 3, none⟩ = some (.int .i64 x.n) ∧ w.cell? ⟨b, 4, none⟩ = some (.slice x.da x.dl x.dc) ∧ w.cell? ⟨b, 5, none⟩ = some (.slice x.ka x.kl x.kc)

theorem BoxAt.below {w w' : World} {b B : Nat} {x : ActV} (h : BoxAt w b x) (hb : Below B w w') (hlt : b < B) : BoxAt w' b x := by
  obtain ⟨h0, h1, h2, h3, h4, h5⟩ := h
  exact ⟨(hb.cell (p := ⟨b, 0, none⟩) hlt).trans h0, (hb.cell (p := ⟨b, 1, none⟩) hlt).trans h1, (hb.cell (p := ⟨b, 2, none⟩) hlt).trans h2, (hb.cell (p := ⟨b, 3, none⟩) hlt).trans h3, (hb.cell (p := ⟨b, 4, none⟩) hlt).trans h4, (hb.cell (p := ⟨b, 5, none⟩) hlt).trans h5⟩

theorem BoxAt.new (w : World) (x : ActV) : BoxAt (w.alloc (.cells #[.int .u8 x.kind, .string x.a, .string x.b, .int .i64 x.n, .slice x.da x.dl x.dc, .slice x.ka x.kl x.kc] 33)) w.heap.size x := by
  refine ⟨?_, ?_, ?_, ?_, ?_, ?_⟩ <;> simp

set_option maxHeartbeats 1600000 in
theorem walk (x : ActV) (hk : 0 ≤ x.kind ∧ x.kind ≤ 255) (hx : x.small) (w : World) :
    Calls Try.prog 5 #[.agg #[.int .u8 x.kind, .string x.a, .string x.b, .int .i64 x.n, .slice x.da x.dl x.dc, .slice x.ka x.kl x.kc]] w fun e w' => e = .returned (.bool true) ∧ Below w.heap.size w w' := by
  have Hx := Lib.hid hx
  clear hx
  obtain ⟨hk0, hk1⟩ := hk
  go_enter Try.func5, Try.ntmps5
  go_wp2_with fail
  refine (awake_any _).mono ?_
  rintro e w1 ⟨rfl, hb1⟩
  have hz1 : w.heap.size + 1 ≤ w1.heap.size := by have := hb1.size; simpa using this
  have B1 := (BoxAt.new w x).below hb1 (by simp)
  obtain ⟨c0, c1, c2, c3, c4, c5⟩ := B1
  go_wp2_with fail
  refine (few_one x Hx.out w1).mono ?_
  rintro e w2 ⟨⟨r, rfl⟩, hb2⟩
  have hz2 : w1.heap.size ≤ w2.heap.size := hb2.size
  have hB : Below w.heap.size w w2 := ((below1 w _).trans (hb1.mono (by simp))).trans (hb2.mono (by omega))
  have B2 : BoxAt w2 w.heap.size x := BoxAt.below ⟨c0, c1, c2, c3, c4, c5⟩ hb2 (by omega)
  clear c0 c1 c2 c3 c4 c5
  have HB2 := Lib.hid B2
  obtain ⟨d0, d1, d2, d3, d4, d5⟩ := B2
  cases r
  · go_wp2_with fail
    refine (awake_any _).mono ?_
    rintro e w3 ⟨rfl, hb3⟩
    go_wp2_with fail
    go_ret
    exact ⟨rfl, hB.trans (hb3.mono (by omega))⟩
  · by_cases h8 : 8 < x.kind
    · go_wp2_with fail
      refine (do_nil_restart _ _ _ _ _ _ _ _ _ _ _ h8).mono ?_
      rintro e w3 ⟨rfl, hb3⟩
      obtain ⟨e0, e1, e2, e3, e4, e5⟩ := HB2.out.below hb3 (by omega)
      go_wp2_with (first
        | (go_at_call 11; refine (names_nil _).mono ?_; rintro e w' ⟨rfl, rfl⟩)
        | (go_at_call 12; refine (room_nil _).mono ?_; rintro e w' ⟨rfl, rfl⟩)
        | (go_at_call 16; refine (waits_nil _).mono ?_; rintro e w' ⟨rfl, rfl⟩)
        | (go_at_call 15; refine (lost_nil _).mono ?_; rintro e w' ⟨rfl, rfl⟩)
        | (go_at_call 10; refine (clone_nil _).mono ?_; rintro e w' ⟨rfl, rfl⟩))
      go_ret
      exact ⟨rfl, hB.trans (hb3.mono (by omega))⟩
    · go_wp2_with fail
      refine (do_nil_call _ _ _ _ _ _ _ _ _ _ _ (by omega)).mono ?_
      rintro e w3 ⟨rfl, hb3⟩
      obtain ⟨e0, e1, e2, e3, e4, e5⟩ := HB2.out.below hb3 (by omega)
      go_wp2_with (first
        | (go_at_call 11; refine (names_nil _).mono ?_; rintro e w' ⟨rfl, rfl⟩)
        | (go_at_call 12; refine (room_nil _).mono ?_; rintro e w' ⟨rfl, rfl⟩)
        | (go_at_call 16; refine (waits_nil _).mono ?_; rintro e w' ⟨rfl, rfl⟩)
        | (go_at_call 15; refine (lost_nil _).mono ?_; rintro e w' ⟨rfl, rfl⟩)
        | (go_at_call 10; refine (clone_nil _).mono ?_; rintro e w' ⟨rfl, rfl⟩))
      go_ret
      exact ⟨rfl, hB.trans (hb3.mono (by omega))⟩

end Go.Proofs.Ytnmiopafifibaaa.diskNil
