/-
  What 'Few' answers of any list of acts: whether there are at most so many, of at most 100000 bytes and numbers in all.
-/
import Derived.Test.YtnmiopafifibaaaNilA
namespace Go.Proofs.Ytnmiopafifibaaa
open Go.ChangeShapes Go.WideShapes Go.ChangeAt Go.RowKit
set_option linter.unusedVariables false

/-- An act, as its six cells have it. -/
structure ActV where
  kind : Int
  a : ByteArray
  b : ByteArray
  n : Int
  da : Option Addr
  dl : Nat
  dc : Nat
  ka : Option Addr
  kl : Nat
  kc : Nat

def ActV.vals (x : ActV) : List Value := [.int .u8 x.kind, .string x.a, .string x.b, .int .i64 x.n, .slice x.da x.dl x.dc, .slice x.ka x.kl x.kc]

def ActV.size (x : ActV) : Nat := x.a.size + x.b.size + x.dl + x.kl

/-- No part of an act is too long for a machine. -/
def ActV.small (x : ActV) : Prop := x.a.size ≤ 140737488351232 ∧ x.b.size ≤ 140737488351232 ∧ x.dl ≤ 140737488351232 ∧ x.kl ≤ 140737488351232

def sizeAll (l : List ActV) : Nat := (l.map ActV.size).sum

theorem sizeAll_take (l : List ActV) (k : Nat) (h : k < l.length) : sizeAll (l.take (k + 1)) = sizeAll (l.take k) + l[k].size := by
  unfold sizeAll
  rw [List.take_succ_eq_append_getElem h, List.map_append, List.sum_append]
  simp

theorem sizeAll_take_le (l : List ActV) (k : Nat) : sizeAll (l.take k) ≤ sizeAll l := by
  unfold sizeAll
  conv => rhs; rw [← List.take_append_drop k l, List.map_append, List.sum_append]
  omega

def fewB (most : Int) (l : List ActV) : Bool := decide ((l.length : Int) ≤ most ∧ sizeAll l ≤ 100000)

/-- The cells of a list of acts. -/
def ActsAt (w : World) (b off : Nat) (l : List ActV) : Prop :=
  ∀ i (h : i < l.length), w.cell? ⟨b, off + i * 6, none⟩ = some (.int .u8 l[i].kind) ∧ w.cell? ⟨b, off + i * 6 + 1, none⟩ = some (.string l[i].a) ∧ w.cell? ⟨b, off + i * 6 + 2, none⟩ = some (.string l[i].b) ∧
    w.cell? ⟨b, off + i * 6 + 3, none⟩ = some (.int .i64 l[i].n) ∧ w.cell? ⟨b, off + i * 6 + 4, none⟩ = some (.slice l[i].da l[i].dl l[i].dc) ∧ w.cell? ⟨b, off + i * 6 + 5, none⟩ = some (.slice l[i].ka l[i].kl l[i].kc)

set_option maxHeartbeats 400000 in
theorem few_any (b off cap : Nat) (l : List ActV) (most : Int) (hm0 : 0 ≤ most) (hm1 : most ≤ 1000) (w : World) (hl : l.length ≤ maxLen) (hs : ∀ x ∈ l, x.small) (hc : ActsAt w b off l) :
    Calls Try.prog 7 #[.slice (some ⟨b, off, none⟩) l.length cap, .int .i64 most] w fun e w' => e = .returned (.bool (fewB most l)) ∧ ∃ n, w' = w.drewN n := by
  unfold maxLen at hl
  have Hc := Lib.hid hc
  have Hs := Lib.hid hs
  clear hc hs
  go_enter Try.func7, Try.ntmps7
  go_wp2
  go_loopw [5, 9] (fun n i wr => ∃ (k q s : Nat), k ≤ l.length ∧ (k : Int) ≤ most ∧ s = sizeAll (l.take k) ∧ s ≤ 100000 ∧ i = .int .i64 k ∧ n = .int .i64 s ∧ wr = w.drewN q) (fun _ i _ => l.length - (intOf i).toNat)
  case atStart => exact ⟨0, 0, 0, by omega, by omega, rfl, by omega, rfl, rfl, rfl⟩
  case round =>
    obtain ⟨k, q, s, hk, hkm, hss, hs1, rfl, rfl, rfl⟩ := hrel
    have Hss := Lib.hid hss
    clear hss
    by_cases hlt : k < l.length
    · obtain ⟨c0, c1, c2, c3, c4, c5⟩ := Hc.out k hlt
      have hx := Hs.out l[k] (List.getElem_mem hlt)
      obtain ⟨x1, x2, x3, x4⟩ := hx
      have hst := Lib.hid (sizeAll_take l k hlt)
      have hle := Lib.hid (sizeAll_take_le l (k + 1))
      have hsz : (l[k].size : Int) = l[k].a.size + l[k].b.size + l[k].dl + l[k].kl := by simp [ActV.size]
      have Hsz := Lib.hid hsz
      clear hsz
      generalize l[k] = x at *
      by_cases h1 : most ≤ (k : Int)
      · have hf : fewB most l = false := by
          unfold fewB
          simp only [decide_eq_false_iff_not]
          omega
        have Hf := Lib.hid hf
        clear hf
        go_wp2
        go_quiet (fail)
        go_wp2
        go_ret
        exact ⟨by rw [Hf.out]; rfl, _, rfl⟩
      · by_cases h2 : (100000 : Int) < (s : Int) + x.a.size + x.b.size + x.dl + x.kl
        · have hf : fewB most l = false := by
            have := hst.out
            have := hle.out
            have := Hsz.out
            have := Hss.out
            unfold fewB
            simp only [decide_eq_false_iff_not]
            omega
          have Hf := Lib.hid hf
          clear hf
          go_wp2
          go_quiet (fail)
          go_wp2
          go_ret
          exact ⟨by rw [Hf.out]; rfl, _, rfl⟩
        · go_wp2
          go_quiet (fail)
          go_wp2
          go_roundw
          case rel =>
            have := hst.out
            have := Hsz.out
            have := Hss.out
            exact ⟨k + 1, _, s + x.size, by omega, by omega, by omega, by omega, by go_num, by rw [show ((s + x.size : Nat) : Int) = (s : Int) + x.a.size + x.b.size + x.dl + x.kl from by omega], rfl⟩
          case measure => simp [intOf]; omega
    · have hf : fewB most l = true := by
        have h3 : l.take k = l := List.take_of_length_le (by omega)
        have := Hss.out
        rw [h3] at this
        unfold fewB
        simp only [decide_eq_true_eq]
        omega
      have Hf := Lib.hid hf
      clear hf
      go_wp2
      go_ret
      exact ⟨by rw [Hf.out]; rfl, _, rfl⟩
end Go.Proofs.Ytnmiopafifibaaa
