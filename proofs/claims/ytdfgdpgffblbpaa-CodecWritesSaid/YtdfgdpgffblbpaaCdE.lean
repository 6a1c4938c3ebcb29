/-
  Package codec: an Out's End.
-/
import Derived.Test.YtdfgdpgffblbpaaCdT
import Derived.Test.YtdfgdpgffblbpaaCdJ
import Derived.Deep.Slices
namespace Go.Proofs.Ytdfgdpgffblbpaa
open Go.ChangeShapes Go.WideShapes Go.ChangeAt Go.RowKit Go.Joins
set_option linter.unusedVariables false

/-- Pieces that a call gathered, turned round and joined. -/
theorem own_rev (B : Nat) (w : World) (v : Value) (ls : List (List Nat)) (hO : Own B w v ls) (hB : B ≤ w.heap.size) (hne : ∀ x ∈ ls, x ≠ []) (hn : ls.length ≤ 100000) (ht : ls.reverse.flatten.length ≤ 100000) :
    Calls Try.prog 25 #[v] w fun e w' => e = .returned (.tuple #[]) ∧ Below B w w' ∧
      Calls Try.prog 26 #[v, .slice none 0 0] w' fun e w'' => ∃ a c, e = .returned (.slice a ls.reverse.flatten.length c) ∧ Sl w'' a c ls.reverse.flatten ∧ Below w'.heap.size w' w'' := by
  obtain ⟨xs, ho, hxs⟩ := hO
  rcases ho.2 with ⟨rfl, h0⟩ | ⟨g, cap, cur, rfl, hg, hh, h1, h2, h3, h4⟩
  · have e : ls = [] := List.eq_nil_of_length_eq_zero h0
    subst e
    refine (reverse_none w).mono ?_
    rintro e w' ⟨rfl, rfl⟩
    refine ⟨rfl, Below.refl _ _, ?_⟩
    have := Any.bytes_Join_none lay_joinB none 0 (.slice none 0 0) w
    refine Calls.mono (P := Try.prog) (f := 26) this ?_
    rintro e w' ⟨rfl, rfl⟩
    exact ⟨_, 0, rfl, ⟨by simp [IsByte], by simp, by simp, fun e => (by cases e), .inl rfl⟩, (Below.refl _ _).alloc (Nat.le_refl _) _⟩
  · obtain ⟨f, hf⟩ := Go.Deep.choose_lt (α := Option Addr × Nat) (p := fun i u => ∀ hi : i < ls.length, xs[i]? = some (.slice u.1 ls[i].length u.2) ∧ Rw B w u.1 u.2 ls[i]) (n := ls.length) fun i hi => by
      obtain ⟨a, c, e1, e2⟩ := hxs i hi
      exact ⟨(a, c), fun _ => ⟨e1, e2⟩⟩
    have hgt : g < w.heap.size := (Array.getElem?_eq_some_iff.1 hh).1
    have hR : Row w g 28 cap ls.length (fun j => .slice (f j).1 (ls.getD j []).length (f j).2) := by
      refine ⟨cur, hh, by simpa using h3, fun j hj => ?_⟩
      have e := (hf j hj hj).1
      rw [← h4, Nat.mul_one, List.getElem?_take, if_pos hj] at e
      have e' : ls.getD j [] = ls[j] := by simp [List.getD, hj]
      show cur[j]? = some (Value.slice (f j).1 (ls.getD j []).length (f j).2)
      rw [e']
      simpa using e
    have hrv := reverse_any g cap ls.length (fun j => (f j).1) (fun j => (ls.getD j []).length) (fun j => (f j).2) w hR h1 h2 (by omega)
    refine hrv.mono ?_
    rintro e w' ⟨rfl, hR', hF⟩
    refine ⟨rfl, hF.below hB fun k hk e => by omega, ?_⟩
    have hlr : ls.reverse.length = ls.length := List.length_reverse
    have hgd : ∀ j, j < ls.length → ls.reverse.getD j [] = ls.getD (ls.length - 1 - j) [] := fun j hj => by
      simp only [List.getD, List.getElem?_reverse hj]
    have := join_any g cap ls.reverse (fun j => (f (ls.length - 1 - j)).1) (fun j => (f (ls.length - 1 - j)).2) w' (by
      rw [hlr]
      refine hR'.mono (Nat.le_refl _) fun j hj => ?_
      simp only [hgd j hj]) (by rw [hlr]; exact h1) (fun j hj => by
        rw [hlr] at hj
        have hj2 : ls.length - 1 - j < ls.length := by omega
        have e := (hf _ hj2 hj2).2
        rw [hgd j hj, show ls.getD (ls.length - 1 - j) [] = ls[ls.length - 1 - j] by simp [List.getD, hj2]]
        refine e.sl.of_block fun p hp hl => hF.block _ (e.sl.blk p hp hl) fun eg => ?_
        rcases e.tag hl p hp with h | ⟨cs, r, h⟩
        · omega
        · rw [eg, hh] at h
          injection h with h
          injection h with _ h
          exact absurd h (by decide)) (fun x hx => hne x (List.mem_reverse.1 hx)) (by rw [hlr]; omega) (by omega)
    rw [hlr] at this
    exact this

set_option maxRecDepth 100000 in
set_option maxHeartbeats 2000000 in
theorem end_ok (X : Nat → Prop) (w : World) (b : Nat) (l : List Nat) (q : Nat) (h : OutAt X w b (some l) q) (hq : q ≤ 50000) :
    Calls Try.prog 12 #[.pointer (some ⟨b, 0, none⟩)] w fun e w' => ∃ a c, e = .returned (.tuple #[.slice a l.length c, .int .i64 0]) ∧ Sl w' a c l ∧ Below w.heap.size w w' := by
  have hbl : b < w.heap.size := h.2.1 b h.1
  obtain ⟨h1, h2, p, h3, h4⟩ := h
  obtain ⟨hlq, Y, L, h6, h7, h8, h9⟩ := h4 l rfl
  have c0 := cell_of_block (i := 0) h3
  have c1 := cell_of_block (i := 1) h3
  simp only [List.getElem?_toArray, List.getElem?_cons_zero, List.getElem?_cons_succ, Option.isNone_some] at c0 c1
  have hL := h8.few
  rw [h9] at hL
  have hL2 : L.length ≤ 50000 := by omega
  have HL9 := Lib.hid h9
  have HLQ : Hid (l.length ≤ 50000) := by show _ ≤ _; omega
  have HNE : Hid (∀ x ∈ L, x ≠ []) := by
    have : ∀ (L : List (List Nat)) (p : Option Addr), Chain Y w L p → ∀ x ∈ L, x ≠ [] := by
      intro L
      induction L with
      | nil => intro p h x hx; cases hx
      | cons y L ih =>
        rintro p ⟨g, a, c, p', k1, k2, k3, k4, k5, k6, k7⟩ x hx
        rcases List.mem_cons.1 hx with rfl | hx
        · exact k5
        · exact ih p' k7 x hx
    exact this L p h8
  have HY : Hid (∀ k, Y k → k < w.heap.size) := fun k hk => h2 k (h7 k hk)
  have HC : Hid (Chain Y w L p) := h8
  have HO0 : Hid (Own w.heap.size w (.slice none 0 0) []) := Own.nil _ _
  clear h1 h2 h3 h4 h6 h7 h8 h9 hL hlq
  go_enter Try.func12, Try.ntmps12
  go_wp2_with fail
  go_loopg [4, 5] 50000 (fun gg s4 s5 wr => ∃ (M R : List (List Nat)) (pp : Option Addr), s5 = .pointer pp ∧ Hid (L = M.reverse.reverse ++ R) ∧ Hid (Chain Y w R pp) ∧ Hid (Own w.heap.size wr s4 M) ∧ Hid (Below w.heap.size w wr) ∧ R.length ≤ gg ∧ M.length + R.length ≤ 50000)
  case atStart => exact ⟨[], L, p, rfl, rfl, HC, HO0, Below.refl _ _, hL2, by simpa using hL2⟩
  case round =>
    obtain ⟨M, R, pp, rfl, HLM, HCH, HO, HB, hg, hmr⟩ := hrel
    clear HC HO0
    match R, HLM, HCH, hg, hmr with
    | [], HLM, HCH, hg, hmr =>
      have e : pp = none := HCH.out
      subst e
      have eM : L = M := by rw [HLM.out]; simp
      have HR := Lib.hid (own_rev w.heap.size wr u4 M HO.out HB.out.size (by rw [← eM]; exact HNE.out) (by rw [← eM]; omega) (by rw [← eM, HL9.out]; have := HLQ.out; omega))
      rw [← eM, HL9.out] at HR
      clear HLM HCH HO eM
      go_wp2_with fail
      (with_reducible refine HR.out.mono ?_)
      rintro e w2 ⟨rfl, hb2, hj⟩
      have HJ := Lib.hid hj
      have HB2 := Lib.hid (HB.out.trans hb2)
      clear hb2 hj HR
      go_wp2_with fail
      (with_reducible refine HJ.out.mono ?_)
      rintro e w3 ⟨a3, c3, rfl, hsl, hb3⟩
      have HS := Lib.hid hsl
      have HB3 := Lib.hid (HB2.out.trans (hb3.mono HB2.out.size))
      clear hsl hb3 HJ
      go_wp2_with fail
      go_ret2
      exact ⟨a3, c3, rfl, HS.out, HB3.out⟩
    | x :: R, HLM, HCH, hg, hmr =>
      obtain ⟨g, a, c, p', rfl, k2, k3, k4, k5, k6, k7⟩ := HCH.out
      have hgl := HY.out g k2
      have hwg := (HB.out.block g hgl).trans k3
      have d0 := cell_of_block (i := 0) hwg
      have d1 := cell_of_block (i := 1) hwg
      simp only [List.getElem?_toArray, List.getElem?_cons_zero, List.getElem?_cons_succ] at d0 d1
      have HRW : Hid (Rw w.heap.size wr a c x) := (Rw.of_sl k4).below HB.out
      have HK3 := Lib.hid k3
      have HC2 := Lib.hid k7
      have HLM2 : Hid (L = (M ++ [x]).reverse.reverse ++ R) := by show _ = _; rw [HLM.out]; simp
      have hlen : M.length ≤ 100000 := by simp at hmr; omega
      have hr2 : R.length + 1 ≤ gk := by simpa using hg
      have hmr2 : M.length + 1 + R.length ≤ 50000 := by simp at hmr; omega
      have hxl := k4.lt
      clear HCH HLM hwg k2 k3 k4 k5 k6 k7 hg hmr
      go_wp2_with (at_builtin; refine wpList_push_rows _ rfl _ _ rfl w.heap.size _ _ rfl (HO.out.keep ((Below.refl _ _).alloc (Nat.le_refl _) _)) wr.heap.size rfl a c x (by simp) (HRW.out.below ((Below.refl _ _).alloc (Nat.le_refl _) _)) (by have := HB.out.size; simp; omega) hlen ?_; intro v' w2 HO2 hk2; have HB2 := Lib.hid ((HB.out.alloc HB.out.size _).trans (hk2.below (by have := HB.out.size; simp; omega))); have e0 := cell_of_block (i := 0) ((HB2.out.block g hgl).trans HK3.out); simp only [List.getElem?_toArray, List.getElem?_cons_zero] at e0; clear hk2)
      go_roundg (gk - 1)
      case measure => omega
      case rel => exact ⟨M ++ [x], R, p', rfl, HLM2, HC2, HO2, HB2, by omega, by rw [List.length_append]; exact hmr2⟩

set_option maxRecDepth 100000 in
theorem end_bad (X : Nat → Prop) (w : World) (b q : Nat) (h : OutAt X w b none q) :
    Calls Try.prog 12 #[.pointer (some ⟨b, 0, none⟩)] w fun e w' => ∃ a c, e = .returned (.tuple #[.slice a 0 c, .int .i64 1]) ∧ Below w.heap.size w w' := by
  obtain ⟨h1, h2, p, h3, h4⟩ := h
  have c1 := cell_of_block (i := 1) h3
  simp only [List.getElem?_toArray, List.getElem?_cons_zero, List.getElem?_cons_succ, Option.isNone_none] at c1
  clear h1 h2 h3 h4
  go_enter Try.func12, Try.ntmps12
  go_wp2_with fail
  go_ret2
  exact ⟨none, 0, rfl, Below.refl _ _⟩
set_option maxRecDepth 100000 in
theorem end_nil (w : World) : Calls Try.prog 12 #[.pointer none] w fun e w' => ∃ a c, e = .returned (.tuple #[.slice a 0 c, .int .i64 1]) ∧ Below w.heap.size w w' := by
  go_enter Try.func12, Try.ntmps12
  go_wp2_with fail
  go_ret2
  exact ⟨none, 0, rfl, Below.refl _ _⟩
/-- What an Out does. -/
theorem outC : OutC OutAt :=
  ⟨OutAt.zero, fun h k hx => h.keep k hx, fun h => h.2.1, fun h hq => h.mono hq, outN_any, outT_any, outR_any, fun X w b l q h hq => end_ok X w b l q h (by omega), fun X w b q h _ => end_bad X w b q h, outN_nil, outT_nil, outR_nil, end_nil⟩
end Go.Proofs.Ytdfgdpgffblbpaa
