/-
  The document's Echelon of no rows, and its Rank.
-/
import Derived.Test.YtiglmoggpjgmbaaRefEch
import Derived.Laws.AppendOwnNone
namespace Go.Proofs.Ytiglmoggpjgmbaa
open Go.ChangeShapes Go.WideShapes Go.ChangeAt Go.RowKit Go.Joins
set_option linter.unusedVariables false

def EchPost0 (w : World) (e : Ending) (w' : World) : Prop :=
  ∃ v, e = .returned (.tuple #[v, .slice none 0 0]) ∧ Below w.heap.size w w'
set_option maxRecDepth 100000 in
set_option maxHeartbeats 1000000 in
theorem echelon_none (w : World) : Calls Try.prog 9 #[.slice none 0 0, .int .i64 0] w (EchPost0 w) := by
  obtain ⟨i0, hi, hz0, hz1, hz2⟩ := info_parts infoR
  go_enter Try.func9, Try.ntmps9
  go_wp2_with (at_builtin; refine wpList_append_own_none rfl (.tmp 14) (.tmp 15) 22 rfl w.heap.size 32 i0 1 Try.underlying22 hi _ 0 [] rfl (World.ownsRow_made w #[] 0 (Nat.le_refl _) (Nat.zero_le _) rfl) rfl ?_)
  refine wp_loop_rounds 1 ?_
  rw [rounds_succ]
  go_wp2_with fail
  go_ret2
  exact ⟨_, rfl, (Below.refl _ _).alloc (Nat.le_refl _) _⟩

/-- The document's rank. -/
def rankN (ls : Rws) : Nat := (echTo (pads ls (longN ls)) (longN ls)).2.length

set_option maxHeartbeats 1000000 in
theorem refRank_any (B : Nat) (a : Option Addr) (cap : Nat) (ls : Rws) (w : World) (hB : B ≤ w.heap.size) (hs : Rs B w a cap ls) (hl : ls.length ≤ 1000) (hm : ∀ x ∈ ls, x.length ≤ 1000) :
    Calls Try.prog 15 #[.slice a ls.length cap] w fun e w' => e = .returned (.int .i64 ((rankN ls : Nat) : Int)) ∧ Below w.heap.size w w' := by
  have HR := Lib.hid (rows_any B a cap ls w hB hs hl hm)
  have HBY := Lib.hid hs.byte
  have HM := Lib.hid hm
  by_cases h0 : ls = []
  · have H0 := Lib.hid h0
    have HK : Hid (rankN ls = 0) := by show _ = _; rw [h0]; rfl
    have HN : Hid (longN ls = 0) := by show _ = _; rw [h0]; rfl
    clear hs hm h0
    go_enter Try.func15, Try.ntmps15
    go_wp2_with fail
    refine HR.out.mono ?_
    rintro e w1 ⟨v, rfl, ho, hb, hv⟩
    have hv' := hv H0.out
    subst hv'
    rw [HN.out]
    clear ho hv
    go_wp2_with fail
    refine (echelon_none _).mono ?_
    rintro e w2 ⟨v2, rfl, hb2⟩
    go_wp2_with fail
    go_ret
    exact ⟨by rw [HK.out]; rfl, hb.trans (hb2.mono hb.size)⟩
  · have hpos : 0 < ls.length := List.length_pos_iff.2 h0
    have hlong := longN_le hm
    have HK : Hid (rankN ls = (echTo (pads ls (longN ls)) (longN ls)).2.length) := rfl
    have HE := Lib.hid (fun (B : Nat) (a : Option Addr) (cap : Nat) (w : World) (hB : B ≤ w.heap.size) (hs : Rs B w a cap (pads ls (longN ls))) => echelon_some B a cap (pads ls (longN ls)) ls.length (longN ls) (longN ls) w hB hs (pads_rect HBY.out) (Nat.le_refl _) hpos hl hlong)
    clear hs hm h0
    go_enter Try.func15, Try.ntmps15
    go_wp2_with fail
    refine HR.out.mono ?_
    rintro e w1 ⟨v, rfl, ho, hb, _⟩
    obtain ⟨a1, c1, rfl, hrs⟩ := ho.rs
    have HS := Lib.hid hrs
    have HC := Lib.hid (HE.out _ _ _ w1 (Nat.le_refl _) hrs)
    have HPL := Lib.hid (pads_len ls (longN ls))
    clear hrs ho HE HR
    generalize longN ls = N at *
    generalize pads ls N = L at *
    go_wp2_with fail
    refine HC.out.mono ?_
    rintro e w2 ⟨g, c2, vp, rfl, _, hp, hb2⟩
    obtain ⟨pa, pc, rfl, _⟩ := hp.form
    clear hp
    go_wp2_with fail
    go_ret
    exact ⟨by rw [HK.out]; rfl, hb.trans (hb2.mono hb.size)⟩
end Go.Proofs.Ytiglmoggpjgmbaa
