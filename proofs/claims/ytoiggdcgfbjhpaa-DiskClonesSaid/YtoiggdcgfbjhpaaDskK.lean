/-
  The names of a table, sorted; a copy of a table.
-/
import Derived.Test.YtoiggdcgfbjhpaaDskZb
import Derived.Test.YtoiggdcgfbjhpaaDskLay
namespace Go.Proofs.Ytoiggdcgfbjhpaa
open Go.ChangeShapes Go.WideShapes Go.ChangeAt Go.RowKit Go.Joins Go.Shelf Go.Maps Go.Sort
set_option linter.unusedVariables false

/-- The names of a table, rising. -/
def namesD (D : DM) : List (List UInt8) := (strKeys D).mergeSort leB

theorem sorts_lay (m : Nat) : AnyZ.SortsIn Try.prog lay_sortedM_ren Fence.wide m :=
  ⟨fun blk off cap ss W hH hblk hsz => callsIn_wide.2 (AnyM.slices_Sort_string lay_sortM blk off cap ss W hH hblk hsz),
   fun p cap W => callsIn_wide.2 (AnyM.slices_Sort_string_none lay_sortM p cap W)⟩
theorem keys_lay (mb : Option Nat) (W : World) : CallsIn Fence.wide 5 Try.prog 42 #[.map mb] W fun e w' => e = .returned (.func (.func 47) #[] #[.pointer (some ⟨W.heap.size, 0, none⟩)]) ∧ w' = W.alloc (.cells #[.map mb] 45) :=
  AnyZ.keys_in lay_keysM Fence.wide 5 trivial rfl mb W
set_option maxHeartbeats 1000000 in
theorem sorted_lay {H : Type} (b nn : Nat) (D0 : DataW H) (R : Value → Option (DataW H × List MemPlace)) (w : World) (hown : w.ownsMap Try.prog 9 R b nn D0) (hmax : Maps.size D0 ≤ maxLen) (hbytes : Maps.size D0 * 16 ≤ 140737488355328) :
    CallsIn Fence.wide 5 Try.prog 41 #[.func (.func 47) #[] #[.pointer (some ⟨w.heap.size, 0, none⟩)]] (w.alloc (.cells #[.map (some b)] 45)) fun e w' => ∃ (v : Value) (ss : List (List UInt8)), e = .returned v ∧ ss.Perm (strKeys D0) ∧
      w'.ownsRow (w.alloc (.cells #[.map (some b)] 45)).heap.size 9 1 v ss.length ((ss.mergeSort (fun x y => decide (x ≤ y))).map encStr) ∧ (v = .slice none 0 0 ↔ ss = []) ∧ Below (w.alloc (.cells #[.map (some b)] 45)).heap.size (w.alloc (.cells #[.map (some b)] 45)) w' := by
  have hbl := hown.lt
  have hseq : SeqGives Fence.wide 2 Try.prog 47 #[.pointer (some ⟨w.heap.size, 0, none⟩)] encStr (fun ss => ss.Perm (strKeys D0)) (Maps.size D0) (w.alloc (.cells #[.map (some b)] 45)) :=
    AnyZ.keys_gives (ρ := lay_keysM_ren) { lay_keysM with } Fence.wide _ trivial rfl (by omega) w.heap.size b nn D0 _ (by simp) (by simp) (by
      obtain ⟨es, clock, hb, Ft, hs, hD⟩ := hown
      exact ⟨es, clock, (Below.heap_alloc _ _ b hbl).trans hb, Ft, hs, hD⟩)
  exact AnyZ.sorted_in lay_sortedM Fence.wide 5 trivial trivial trivial trivial rfl (by omega) (sorts_lay _) (enters_of Try.func46 (by kernel_rfl) rfl) 47 #[.pointer (some ⟨w.heap.size, 0, none⟩)] trivial (enters_of Try.func47 (by kernel_rfl) rfl) _ _ hmax hbytes _ hseq
set_option maxHeartbeats 1000000 in
theorem sorted_nil_lay (w : World) :
    CallsIn Fence.wide 5 Try.prog 41 #[.func (.func 47) #[] #[.pointer (some ⟨w.heap.size, 0, none⟩)]] (w.alloc (.cells #[.map none] 45)) fun e w' => ∃ (v : Value) (ss : List (List UInt8)), e = .returned v ∧ ss = [] ∧
      w'.ownsRow (w.alloc (.cells #[.map none] 45)).heap.size 9 1 v ss.length ((ss.mergeSort (fun x y => decide (x ≤ y))).map encStr) ∧ (v = .slice none 0 0 ↔ ss = []) ∧ Below (w.alloc (.cells #[.map none] 45)).heap.size (w.alloc (.cells #[.map none] 45)) w' := by
  have hseq : SeqGives Fence.wide 2 Try.prog 47 #[.pointer (some ⟨w.heap.size, 0, none⟩)] encStr (fun ss : List (List UInt8) => ss = []) 0 (w.alloc (.cells #[.map none] 45)) :=
    AnyZ.keys_gives_nil (ρ := lay_keysM_ren) { lay_keysM with } Fence.wide _ trivial rfl w.heap.size _ (by simp) (by simp)
  exact AnyZ.sorted_in lay_sortedM Fence.wide 5 trivial trivial trivial trivial rfl (by omega) (sorts_lay _) (enters_of Try.func46 (by kernel_rfl) rfl) 47 #[.pointer (some ⟨w.heap.size, 0, none⟩)] trivial (enters_of Try.func47 (by kernel_rfl) rfl) _ 0 (Nat.zero_le _) (by omega) _ hseq

/-- A slice of names, in new memory. -/
structure NewN (w0 w' : World) (v : Value) (ns : List (List UInt8)) : Prop where
  row : w'.ownsRow 0 9 1 v ns.length (ns.map encStr)
  new : ∀ k, v.ownBlock = some k → w0.heap.size ≤ k
  low : Below w0.heap.size w0 w'
theorem row_new {w : World} {B e s n : Nat} {v : Value} {xs : List Value} (h : w.ownsRow B e s v n xs) : w.ownsRow 0 e s v n xs ∧ ∀ k, v.ownBlock = some k → B ≤ k := by
  refine ⟨⟨h.1, ?_⟩, fun k hk => ?_⟩
  · rcases h.2 with h0 | ⟨g, cap, cur, hv, hg0, hg, r⟩
    · exact .inl h0
    · exact .inr ⟨g, cap, cur, hv, Nat.zero_le _, hg, r⟩
  · rcases h.2 with ⟨h0, _⟩ | ⟨g, cap, cur, hv, hg0, hg, r⟩
    · rw [h0] at hk; cases hk
    · rw [hv] at hk
      have : g = k := Option.some.inj hk
      omega

theorem names_perm {D : DM} {ss : List (List UInt8)} (h : ss.Perm (strKeys D)) : ss.mergeSort (fun x y => decide (x ≤ y)) = namesD D := mergeSort_of_perm h
theorem sorted_any {ι : Nat → Option Nat} {w : World} {t : Option Nat} {n : Nat} {D : DM} (h : Tab ι w t n D) (hn : n ≤ 1000000) :
    Calls Try.prog 30 #[.map t] w fun e w' => ∃ v, e = .returned v ∧ NewN w w' v (namesD D) := by
  refine (callsIn_wide (n := 6)).1 ?_
  have hfK : Fence.wide.fn 42 := trivial
  have hfS : Fence.wide.fn 41 := trivial
  have hpost : ∀ (w' : World) (v : Value) (ss : List (List UInt8)), ss.Perm (strKeys D) → w'.ownsRow (w.alloc (.cells #[.map t] 45)).heap.size 9 1 v ss.length ((ss.mergeSort (fun x y => decide (x ≤ y))).map encStr) → Below (w.alloc (.cells #[.map t] 45)).heap.size (w.alloc (.cells #[.map t] 45)) w' → NewN w w' v (namesD D) := fun w' v ss hS hrow hb => by
    rw [names_perm hS, show ss.length = (namesD D).length by rw [hS.length_eq]; unfold namesD; rw [List.length_mergeSort]] at hrow
    obtain ⟨h1, h2⟩ := row_new hrow
    exact ⟨h1, fun k hk => by have := h2 k hk; simp at this; omega, ((Below.refl _ w).alloc (Nat.le_refl _) _).trans (hb.mono (by simp))⟩
  rcases h with ⟨rfl, rfl⟩ | ⟨b, rfl, hown⟩
  · have hs := sorted_nil_lay w
    refine callsIn_of_wp Try.func30 rfl trivial ?_ rfl
    simp only [Try.ntmps30, List.size_toArray, List.length_cons, List.length_nil, Nat.reduceAdd, Nat.reduceSub, Array.replicate_succ, Array.replicate_zero, List.push_toArray, List.append_toArray, List.nil_append, List.cons_append]
    gi_wp2_with (first
      | (gi_at_call 42; refine (keys_lay _ _).mono ?_; rintro e w' ⟨rfl, rfl⟩)
      | (gi_at_call 41; refine hs.mono ?_; rintro e w' ⟨v, ss, rfl, rfl, hrow, hnil, hb⟩))
    go_ret
    exact ⟨_, rfl, hpost _ _ [] (List.Perm.refl _) hrow hb⟩
  · have hsz := hown.size_le
    have hs := sorted_lay b n D (fileR ι) w hown (by unfold maxLen; omega) (by omega)
    refine callsIn_of_wp Try.func30 rfl trivial ?_ rfl
    simp only [Try.ntmps30, List.size_toArray, List.length_cons, List.length_nil, Nat.reduceAdd, Nat.reduceSub, Array.replicate_succ, Array.replicate_zero, List.push_toArray, List.append_toArray, List.nil_append, List.cons_append]
    gi_wp2_with (first
      | (gi_at_call 42; refine (keys_lay _ _).mono ?_; rintro e w' ⟨rfl, rfl⟩)
      | (gi_at_call 41; refine hs.mono ?_; rintro e w' ⟨v, ss, rfl, hS, hrow, hnil, hb⟩))
    go_ret
    exact ⟨_, rfl, hpost _ _ ss hS hrow hb⟩

/-- maps.Clone of a table. -/
theorem cloneM_any {ι : Nat → Option Nat} {w : World} {t : Option Nat} {n : Nat} {D : DM} (h : Tab ι w t n D) :
    Calls Try.prog 28 #[.map t] w fun e w' => ∃ t', e = .returned (.map t') ∧ Tab ι w' t' n D ∧ (t' = none ↔ t = none) ∧ (∀ b, t' = some b → w.heap.size ≤ b) ∧ Below w.heap.size w w' := by
  rcases h with ⟨rfl, rfl⟩ | ⟨b, rfl, hown⟩
  · refine (show Calls Try.prog 28 #[.map none] w _ from AnyW.maps_Clone_nil lay_cloneM w).mono ?_
    rintro e w' ⟨rfl, rfl⟩
    exact ⟨none, rfl, .inl ⟨rfl, rfl⟩, Iff.rfl, fun b e => (by cases e), Below.refl _ _⟩
  · refine (show Calls Try.prog 28 #[.map (some b)] w _ from AnyW.maps_Clone_owns lay_cloneM 9 (fileR ι) b n D w hown).mono ?_
    rintro e w' ⟨rfl, h1, _, h2⟩
    exact ⟨some w.heap.size, rfl, .inr ⟨_, rfl, h1⟩, by simp, fun b e => (by cases e; exact Nat.le_refl _), h2⟩
end Go.Proofs.Ytoiggdcgfbjhpaa
