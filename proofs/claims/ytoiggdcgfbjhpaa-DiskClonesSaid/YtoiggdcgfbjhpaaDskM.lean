/-
  Tables of names: what they read as, and a change of names, done to one.
-/
import Derived.Test.YtoiggdcgfbjhpaaDskD
import Derived.Deep.DeepCutAuto
import Derived.Deep.CutRange
import Derived.Deep.LoopGhost
import Derived.Maps.OwnSet
import Derived.Maps.RangeWalk
import Derived.Laws.OwnMore
namespace Go.Proofs.Ytoiggdcgfbjhpaa
open Go.ChangeShapes Go.WideShapes Go.ChangeAt Go.RowKit Go.Joins
set_option linter.unusedVariables false

abbrev DM := DataW Unit
/-- A file's number; -1: none. -/
def idD (i : Int) : DM := .lit (.int .i64 i)
def keyD (s : ByteArray) : Lit := .string s.data.toList
/-- How a pointer to a file reads, where ι tells the files' numbers. -/
def fileR (ι : Nat → Option Nat) (v : Value) : Option (DM × List MemPlace) :=
  match v with
  | .pointer none => some (idD (-1), [])
  | .pointer (some a) => if a.off = 0 ∧ a.spot = none then (ι a.block).map (fun (i : Nat) => (idD (i : Int), ([] : List MemPlace))) else none
  | _ => none
theorem fileR_inv {ι : Nat → Option Nat} {v : Value} {z : DM × List MemPlace} (h : fileR ι v = some z) : (v = .pointer none ∧ z = (idD (-1), [])) ∨ ∃ b i, v = .pointer (some ⟨b, 0, none⟩) ∧ ι b = some i ∧ z = (idD (i : Int), []) := by
  unfold fileR at h
  split at h
  · cases h; exact .inl ⟨rfl, rfl⟩
  · rename_i a
    split at h
    · rename_i hc
      obtain ⟨i, hi, rfl⟩ := Option.map_eq_some_iff.1 h
      obtain ⟨b, o, s⟩ := a
      obtain ⟨rfl, rfl⟩ := hc
      exact .inr ⟨b, i, rfl, hi, rfl⟩
    · cases h
  · cases h
theorem idD_inj {i j : Int} (h : idD i = idD j) : i = j := by
  unfold idD at h
  simpa using h

/-- A change of names: made: the new file's number, or -1. -/
structure Chg where
  made : Int
  src : ByteArray
  dst : ByteArray
def Chg.did (c : Chg) (D : DM) : DM :=
  let f := if c.made = -1 then D.atKey (keyD c.src) (idD (-1)) else idD c.made
  let D1 := if c.made = -1 then D.del (keyD c.src) else D
  if c.dst.size = 0 then D1 else D1.put (keyD c.dst) f
/-- As Go has it. -/
def Chg.val (c : Chg) (p : Value) : Value := .agg #[p, .string c.src, .string c.dst]

theorem key_string (s : ByteArray) (hs : s.size ≤ maxLen) : keyOf Try.prog 9 (.string s) = some (keyD s) := by
  simp [keyOf, mapKey, Try.underlying9, keyD, hs]
theorem keyedS : Maps.Keyed Try.prog 9 := Maps.string_keyed Try.underlying9

theorem bytes_nil {s : ByteArray} : s = ⟨#[]⟩ ↔ s.size = 0 := by
  obtain ⟨d⟩ := s
  constructor
  · intro h; cases h; rfl
  · intro h
    have : d.size = 0 := h
    have : d = #[] := Array.eq_empty_of_size_eq_zero this
    rw [this]

theorem bytes_some {s : ByteArray} (h : ¬ s.size = 0) : s.toList.isEmpty = false := by
  rw [ByteArray.toList_eq]
  cases hl : s.data.toList with
  | nil => exact absurd (show s.data.size = 0 by rw [← Array.length_toList, hl]; rfl) h
  | cons _ _ => rfl
set_option maxRecDepth 100000 in
set_option maxHeartbeats 1000000 in
theorem apply_any (ι : Nat → Option Nat) (b n : Nat) (D : DM) (c : Chg) (p : Value) (w : World) (hp : fileR ι p = some (idD c.made, [])) (hs1 : c.src.size ≤ maxLen) (hs2 : c.dst.size ≤ maxLen) (hn : n < maxLen) (hown : w.ownsMap Try.prog 9 (fileR ι) b n D) :
    Calls Try.prog 29 #[c.val p, .map (some b)] w fun e w' => e = .returned (.tuple #[]) ∧ w'.ownsMap Try.prog 9 (fileR ι) b (n + 1) (c.did D) ∧ w.grownBy w' (some b) := by
  obtain ⟨made, src, dst⟩ := c
  simp only at hp hs1 hs2
  have k1 := key_string src hs1
  have k2 := key_string dst hs2
  have HZ : Hid (∀ w : World, (zeroValue 59).run Try.prog w = .ok (.pointer none) w) := fun w => by kernel_rfl
  have HN := Lib.hid hn
  have HW : Hid (w.ownsMap Try.prog 9 (fileR ι) b n D) := hown
  have HK1 := Lib.hid k1
  have HK2 := Lib.hid k2
  clear hown k1 k2 hs1 hs2 hn
  rcases fileR_inv hp with ⟨rfl, he⟩ | ⟨bf, i, rfl, hi, he⟩
  · have hm : made = -1 := idD_inj (congrArg Prod.fst he)
    subst hm
    unfold Chg.val
    go_enter Try.func29, Try.ntmps29
    go_upto_region 3 with fail
    have hb := HW.out.lt
    have HA := Lib.hid (HW.out.alloc (.cells #[.pointer none, .string src, .string dst] 61))
    have b1 : (w.alloc (.cells #[.pointer none, .string src, .string dst] 61)).cell? ⟨w.heap.size, 1, none⟩ = some (.string src) := by simp
    have b2 : (w.alloc (.cells #[.pointer none, .string src, .string dst] 61)).cell? ⟨w.heap.size, 2, none⟩ = some (.string dst) := by simp
    have HG : Hid (w.grownBy (w.alloc (.cells #[.pointer none, .string src, .string dst] 61)) (some b)) := World.grownBy_alloc _ _ _
    generalize w.alloc (.cells #[.pointer none, .string src, .string dst] 61) = wa at *
    have hne : w.heap.size ≠ b := by omega
    generalize w.heap.size = g at *
    obtain ⟨v, ps, hrun, hv⟩ := HA.out.lookup keyedS Try.underlying45 (HZ.out wa) (zd := idD (-1)) (zp := []) rfl HK1.out
    have HV := Lib.hid hv
    clear hv hb
    go_upto_region 5 with (at_delete; refine wpList_delete_own _ rfl _ _ _ _ rfl _ keyedS Try.underlying45 _ b n D rfl HA.out _ _ rfl HK1.out ?_; intro w1 hown1 hturn1)
    have H1 := Lib.hid hown1
    have HG1 : Hid (w.grownBy w1 (some b)) := HG.out.trans hturn1.grown
    have b3 := hturn1.grown.cell b2 (fun e => hne (Option.some.inj e))
    clear hown1 hturn1 HA b1 b2 hrun HG
    by_cases hto : dst.size = 0
    · have hz : dst = ⟨#[]⟩ := bytes_nil.2 hto
      have HD : Hid (Chg.did ⟨-1, src, dst⟩ D = D.del (keyD src)) := by show _ = _; simp [Chg.did, hto]
      subst hz
      go_wp2_with fail
      go_end0
      rw [HD.out]
      exact ⟨rfl, H1.out.mono (by omega), HG1.out⟩
    · have hz : dst.toList.isEmpty = false := bytes_some hto
      have HD : Hid (Chg.did ⟨-1, src, dst⟩ D = (D.del (keyD src)).put (keyD dst) (D.atKey (keyD src) (idD (-1)))) := by show _ = _; simp [Chg.did, hto]
      go_wp2_with (at_mapUpdate; refine wpList_mapUpdate_own _ rfl _ _ _ _ rfl _ _ keyedS Try.underlying45 _ b n _ rfl H1.out HN.out _ _ _ rfl rfl HK2.out _ _ HV.out ?_; intro w2 hown2 hgrow2)
      go_end0
      rw [HD.out]
      exact ⟨rfl, hown2, HG1.out.trans hgrow2⟩
  · have hm : made = (i : Int) := idD_inj (congrArg Prod.fst he)
    subst hm
    have HV : Hid (fileR ι (.pointer (some ⟨bf, 0, none⟩)) = some (idD (i : Int), [])) := hp
    have hm1 : ¬ (i : Int) = -1 := by omega
    clear hp he hi
    unfold Chg.val
    go_enter Try.func29, Try.ntmps29
    go_upto_region 5 with fail
    have hb := HW.out.lt
    have HA := Lib.hid (HW.out.alloc (.cells #[.pointer (some ⟨bf, 0, none⟩), .string src, .string dst] 61))
    have b2 : (w.alloc (.cells #[.pointer (some ⟨bf, 0, none⟩), .string src, .string dst] 61)).cell? ⟨w.heap.size, 2, none⟩ = some (.string dst) := by simp
    have HG : Hid (w.grownBy (w.alloc (.cells #[.pointer (some ⟨bf, 0, none⟩), .string src, .string dst] 61)) (some b)) := World.grownBy_alloc _ _ _
    generalize w.alloc (.cells #[.pointer (some ⟨bf, 0, none⟩), .string src, .string dst] 61) = wa at *
    generalize w.heap.size = g at *
    clear hb
    by_cases hto : dst.size = 0
    · have hz : dst = ⟨#[]⟩ := bytes_nil.2 hto
      have HD : Hid (Chg.did ⟨i, src, dst⟩ D = D) := by show _ = _; simp [Chg.did, hto, hm1]
      subst hz
      go_wp2_with fail
      go_end0
      rw [HD.out]
      exact ⟨rfl, HA.out.mono (by omega), HG.out⟩
    · have hz : dst.toList.isEmpty = false := bytes_some hto
      have HD : Hid (Chg.did ⟨i, src, dst⟩ D = D.put (keyD dst) (idD i)) := by show _ = _; simp [Chg.did, hto, hm1]
      go_wp2_with (at_mapUpdate; refine wpList_mapUpdate_own _ rfl _ _ _ _ rfl _ _ keyedS Try.underlying45 _ b n _ rfl HA.out HN.out _ _ _ rfl rfl HK2.out _ _ HV.out ?_; intro w2 hown2 hgrow2)
      go_end0
      rw [HD.out]
      exact ⟨rfl, hown2, HG.out.trans hgrow2⟩
end Go.Proofs.Ytoiggdcgfbjhpaa
