/-
  The law SumDigest, walked: any bytes' digest is the document's.
-/
import Derived.Test.YthnodhlgfokfjaaDoorDigF
import Derived.Test.YthnodhlgfokfjaaDoorRefB
import Derived.ChangeKeysEq
namespace Go.Proofs.YthnodhlgfokfjaaDoor
open Go.ChangeShapes Go.WideShapes Go.ChangeAt Go.RowKit
set_option linter.unusedVariables false

theorem ref_digest (a : Option Addr) (cap : Nat) (l : List Nat) (w : World) (hl : l.length ≤ 1000000) (hn : a = none → l.length = 0 ∧ cap = 0) (hb : IsByte l) (hc : BytesAt w a l) :
    Calls Tryd.prog 10 #[.slice a l.length cap] w fun e w' => e = .returned (.agg (rowArr 32 (spV (comp (padN l) ((padN l).length / 64))))) ∧ Below w.heap.size w w' :=
  ref_core a cap l _ rfl w hl hn hb hc

theorem agg5 (w : World) : (isAgg 5).run Tryd.prog w = .ok false w := by kernel_rfl
theorem part5 (g : Nat → Value) (n k : Nat) (hk : k < n) (w : World) : (part 5 (rowArr n g) k).run Tryd.prog w = .ok (g k) w := by
  have e : (rowArr n g)[k]? = some (g k) := by simp [rowArr, hk]
  simp only [part, Sem.run_bind, agg5, Result.andThen, e]
  rfl

theorem eq_items (x : S8) (d : Nat) (w : World) : ∀ is : List Nat, (∀ i ∈ is, i < 32) → (Op.eqItems (d + 1) 5 1 (rowArr 32 (spV x)) (rowArr 32 (spV x)) is).run Tryd.prog w = .ok true w
  | [], _ => by simp [Op.eqItems]
  | i :: is, h => by
    have ih := eq_items x d w is (fun j hj => h j (by simp [hj]))
    have hp := part5 (spV x) 32 i (h i (by simp)) w
    have he : (Op.equalIn (d + 1) 5 (spV x i) (spV x i)).run Tryd.prog w = .ok true w := by
      unfold spV
      rw [run_equalIn_int w d 5 .u8 .u8 _ _ Tryd.underlying5]
      simp
    simp only [Op.eqItems, Nat.mul_one, Sem.run_bind, hp, he, Result.andThen_ok]
    simpa using ih

theorem eq_rows (x : S8) (w : World) : (Op.equalIn 10000 27 (.agg (rowArr 32 (spV x))) (.agg (rowArr 32 (spV x)))).run Tryd.prog w = .ok true w := by
  obtain ⟨i0, hi, hz0, hz1, hz2⟩ := info_parts info5
  rw [run_equalIn_array w 9999 _ _ Tryd.underlying27 hi, show Tryd.prog.cellsOf 5 = 1 by kernel_rfl]
  exact eq_items x 9998 w _ (fun i hi => by simpa using hi)

set_option maxRecDepth 100000 in
set_option maxHeartbeats 400000 in
theorem sumDigest_walk (a : Option Addr) (cap : Nat) (l : List Nat) (w : World) (hl : l.length ≤ maxLen) (hlc : l.length ≤ cap) (hcm : cap ≤ maxLen) (hn : a = none → l.length = 0 ∧ cap = 0) (hb : IsByte l) (hc : BytesAt w a l) (hF : Fours w) (hK : Ks w) (hS : Starts w) :
    Calls Tryd.prog 4 #[.slice a l.length cap] w fun e w' => e = .returned (.bool true) ∧ Below w.heap.size w w' := by
  have hlm : l.length ≤ 9223372036854775807 := by unfold maxLen at hl; omega
  have HL := Lib.hid hl
  have HLC := Lib.hid hlc
  have HCM := Lib.hid hcm
  have HN := Lib.hid hn
  have HB := Lib.hid hb
  have HC := Lib.hid hc
  have HF := Lib.hid hF
  have HK := Lib.hid hK
  have HS := Lib.hid hS
  have hlt := hF.lt
  have hlt2 := hK.lt
  clear hl hlc hcm hn hb hc hF hK hS
  by_cases hlen : 20000 < l.length
  · go_enter Tryd.func4, Tryd.ntmps4
    go_wp2_with fail
    refine (awake_any _ HF.out).mono ?_
    rintro e w1 ⟨rfl, b1⟩
    go_wp2_with fail
    refine (awake_any _ (HF.out.below hlt b1)).mono ?_
    rintro e w2 ⟨rfl, b2⟩
    go_wp2_with fail
    go_ret
    exact ⟨rfl, b1.trans (b2.mono b1.size)⟩
  · go_enter Tryd.func4, Tryd.ntmps4
    go_wp2_with fail
    refine (awake_any _ HF.out).mono ?_
    rintro e w1 ⟨rfl, b1⟩
    go_wp2_with fail
    refine (digest_any _ _ _ _ (by omega) HLC.out HCM.out HB.out (HC.out.below (Nat.le_refl _) b1) (HK.out.below hlt2 b1) (HS.out.below (by omega) b1)).mono ?_
    rintro e w2 ⟨rfl, b2⟩
    have b12 : Below w.heap.size w w2 := b1.trans (b2.mono b1.size)
    go_wp2_with fail
    refine (ref_digest _ _ _ _ (by omega) HN.out HB.out (HC.out.below (Nat.le_refl _) b12)).mono ?_
    rintro e w3 ⟨rfl, b3⟩
    have heq := eq_rows (comp (padN l) ((padN l).length / 64)) w3
    have b13 : Below w.heap.size w w3 := b12.trans (b3.mono b12.size)
    generalize rowArr 32 (spV (comp (padN l) ((padN l).length / 64))) = D at *
    go_wp2_with fail
    go_ret
    exact ⟨rfl, b13⟩
end Go.Proofs.YthnodhlgfokfjaaDoor
