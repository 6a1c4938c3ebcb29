/-
  settle, walked.
-/
import Derived.Test.YtoiggdcgfbjhpaaDskO
namespace Go.Proofs.Ytoiggdcgfbjhpaa
open Go.ChangeShapes Go.WideShapes Go.ChangeAt Go.RowKit Go.Joins
set_option linter.unusedVariables false

/-- The disk's block and the table of what is safe. -/
def Saf (B : Nat) (sf : Option Nat) (k : Nat) : Prop := k = B ∨ sf = some k
theorem Tab.fr {ι : Nat → Option Nat} {X : Nat → Prop} {w w' : World} {t : Option Nat} {n : Nat} {D : DM} (h : Tab ι w t n D) (k : Fr X w w') (hx : ∀ b, t = some b → ¬ X b) : Tab ι w' t n D := by
  rcases h with h | ⟨b, rfl, es, clock, hb, r⟩
  · exact .inl h
  · exact .inr ⟨b, rfl, es, clock, (k.block b (Array.getElem?_eq_some_iff.1 hb).1 (hx b rfl)).trans hb, r⟩

theorem cell_up {w : World} {p : Addr} {u : Value} (h : w.cell? p = some u) : ∀ d os, (Sort.grow (redrawn w d) os).cell? p = some u := fun d os => by
  rw [(below_regrown w d os).cell (World.block_lt_of_cell? w p h)]; exact h
theorem own_fr {ι : Nat → Option Nat} {X : Nat → Prop} {w w' : World} {b n : Nat} {D : DM} (h : w.ownsMap Try.prog 9 (fileR ι) b n D) (k : Fr X w w') (hx : ¬ X b) : w'.ownsMap Try.prog 9 (fileR ι) b n D := by
  obtain ⟨es, clock, hb, r⟩ := h
  exact ⟨es, clock, (k.block b (Array.getElem?_eq_some_iff.1 hb).1 hx).trans hb, r⟩

set_option maxRecDepth 100000 in
set_option maxHeartbeats 4000000 in
theorem settle_any {ι : Nat → Option Nat} {w : World} {B n : Nat} {x : Dk} {D : DM} {l : List (Value × Chg)} (N : Nat) (h : DkAt w B x) (hw : Wts ι w x.wa x.wl x.wc l) (ht : Tab ι w x.sf n D) (hN : N ≤ x.wl) (hc : x.wc ≤ maxLen) (hl : x.wl ≤ x.wc) (hn : n + x.wl ≤ 1000000) (h0 : x.sf = none → x.wl = 0) :
    Calls Try.prog 31 #[.pointer (some ⟨B, 0, none⟩), .int .i64 (N : Int)] w fun e w' => e = .returned (.tuple #[]) ∧ DkAt w' B { x with wa := none, wl := 0, wc := 0 } ∧ Tab ι w' x.sf (n + N) (didTo l D N) ∧ Fr (Saf B x.sf) w w' := by
  have c4 : w.cell? ⟨B, 4, none⟩ = some (.slice x.wa x.wl x.wc) := by rw [h.cell]; simp [Dk.cells]
  have HD := Lib.hid h
  have HW := Lib.hid hw
  have HT := Lib.hid ht
  have H0 := Lib.hid h0
  have hcz : (x.wl : Int) ≤ (x.wc : Int) := by omega
  have hc2 : x.wc ≤ 9223372036854775807 := by unfold maxLen at hc; omega
  have hNz : (N : Int) ≤ (x.wc : Int) := by omega
  have hN0 : (0 : Int) ≤ (N : Int) := by omega
  have HXB : Hid (¬ x.sf = some B) := fun e => by
    rcases ht with ⟨h1, _⟩ | ⟨b, h1, es, clock, hb, _⟩
    · rw [h1] at e; cases e
    · rw [h1] at e; cases e
      rw [h.blk] at hb; cases hb
  have HXG : Hid (∀ g, x.wa = some ⟨g, 0, none⟩ → ¬ x.sf = some g) := fun g hg e => by
    rcases ht with ⟨h1, _⟩ | ⟨b, h1, es, clock, hb, _⟩
    · rw [h1] at e; cases e
    · rw [h1] at e; cases e
      rcases hw.row.2 with ⟨h2, _⟩ | ⟨g', cap', cur, hv, _, hg', _⟩
      · rw [hg] at h2; cases h2
      · rw [hg] at hv; cases hv
        rw [hg'] at hb; cases hb
  clear h hw ht hc h0
  cases hwa : x.wa with
  | none =>
    obtain ⟨hl0, hc0⟩ : x.wl = 0 ∧ x.wc = 0 := by
      rcases HW.out.row.2 with ⟨h1, h2⟩ | ⟨g, cap', cur, hv, _⟩
      · rw [hwa] at h1
        injection h1 with _ h3 h4
        exact ⟨h3, h4⟩
      · rw [hwa] at hv; cases hv
    obtain rfl : N = 0 := by omega
    rw [hwa, hl0, hc0] at c4
    have f4 := HD.out.loose 4
    have ok := HD.out.ok
    have HE : Hid (DkAt (w.setCell ⟨B, 4, none⟩ (.slice none 0 0)) B { x with wa := none, wl := 0, wc := 0 }) := HD.out.set 4 _ ⟨ok.cap1, ok.cap2, ok.used1, ok.used2, ok.fl1, ok.fl2, ok.gl1, ok.gl2, Nat.zero_le _⟩ (by simp [Dk.cells])
    have HFE : Hid (Fr (Saf B x.sf) w (w.setCell ⟨B, 4, none⟩ (.slice none 0 0))) := (Fr.refl _ w).set (fun _ => .inl rfl) _
    have HTE : Hid (Tab ι (w.setCell ⟨B, 4, none⟩ (.slice none 0 0)) x.sf (n + 0) (didTo l D 0)) := HT.out.fr (Fr.of_only (X := fun j => j = B) (Only.set B 4 w _) rfl) fun b' e h => HXB.out (by rw [e, h])
    clear ok hwa hl0 hc0 hcz hc2 hNz hN0 hN hl hn
    go_enter Try.func31, Try.ntmps31
    go_wp2_with fail
    go_loopg [13] 0 (fun gg i wr => i = .int .i64 0 ∧ wr = w)
    case atStart => exact ⟨rfl, rfl⟩
    case round =>
      obtain ⟨rfl, rfl⟩ := hrel
      go_wp2_with fail
      go_end0
      exact ⟨rfl, HE.out, HTE.out, HFE.out⟩
  | some a =>
    rw [hwa] at c4
    go_enter Try.func31, Try.ntmps31
    go_wp2_with fail
    go_loopg [13] N (fun gg i wr => ∃ k : Nat, k ≤ N ∧ N - k ≤ gg ∧ i = .int .i64 k ∧ Hid (Tab ι wr x.sf (n + k) (didTo l D k)) ∧ Hid (Fr (fun j => x.sf = some j) w wr))
    case atStart => exact ⟨0, by omega, by omega, rfl, HT.out, Fr.refl _ _⟩
    case round =>
      obtain ⟨k, hk, hgg, rfl, HTk, HF⟩ := hrel
      by_cases hlt : k < N
      · have hltz : (k : Int) < (N : Int) := by omega
        have hk0 : (0 : Int) ≤ (k : Int) := by omega
        obtain ⟨g, cur, ea, hcur⟩ := (by have := HW.out.some (by omega); rw [hwa] at this; exact this : ∃ g cur, some a = some (⟨g, 0, none⟩ : Addr) ∧ w.heap[g]? = some (.cells cur 61 (0, 0)))
        cases ea
        have hkl : k < l.length := by rw [HW.out.len]; omega
        have Wk : Wts ι wr (some ⟨g, 0, none⟩) x.wl x.wc l := by
          have := HW.out.fr HF.out (fun p hp => by rw [hwa] at hp; cases hp; exact HXG.out g hwa)
          rwa [hwa] at this
        have hDk := HD.out.fr HF.out HXB.out
        obtain ⟨s0, s1, s2⟩ := Wk.cells hkl
        have hp := Wk.ptr _ (List.getElem_mem hkl)
        have hsz := Wk.src _ (List.getElem_mem hkl)
        have HDS := Lib.hid (didTo_succ (D := D) hkl)
        obtain ⟨b, hsf, hob⟩ : ∃ b, x.sf = some b ∧ wr.ownsMap Try.prog 9 (fileR ι) b (n + k) (didTo l D k) := by
          rcases HTk.out with ⟨h1, _⟩ | h1
          · have := H0.out h1; omega
          · exact h1
        have c3 : wr.cell? ⟨B, 3, none⟩ = some (.map (some b)) := by rw [hDk.cell]; simp [Dk.cells, hsf]
        have HP := Lib.hid hp
        have HSZ := Lib.hid hsz
        have HOB := Lib.hid hob
        have HSF := Lib.hid hsf
        have hB := hDk.lt
        have hg := World.block_lt_of_cell? wr _ s0
        generalize l[k] = c at *
        obtain ⟨p, c⟩ := c
        simp only at s0 s1 s2 HP HSZ HDS
        obtain ⟨q, rfl⟩ : ∃ q : Option Addr, p = .pointer q := by
          rcases fileR_inv HP.out with ⟨rfl, _⟩ | ⟨b', _, rfl, _⟩
          · exact ⟨_, rfl⟩
          · exact ⟨_, rfl⟩
        clear Wk hDk hp hsz hob hsf hcur cur
        go_upto_region 3 with fail
        have HFA : Hid (Fr (fun j => x.sf = some j) w (wr.alloc (.cells #[.pointer q, .string c.src, .string c.dst] 61))) := HF.out.later ((Below.refl _ _).alloc (Nat.le_refl _) _)
        have HOA := Lib.hid (HOB.out.alloc (.cells #[.pointer q, .string c.src, .string c.dst] 61))
        have a0 : (wr.alloc (.cells #[.pointer q, .string c.src, .string c.dst] 61)).cell? ⟨wr.heap.size, 0, none⟩ = some (.pointer q) := by simp
        have a1 : (wr.alloc (.cells #[.pointer q, .string c.src, .string c.dst] 61)).cell? ⟨wr.heap.size, 1, none⟩ = some (.string c.src) := by simp
        have a2 : (wr.alloc (.cells #[.pointer q, .string c.src, .string c.dst] 61)).cell? ⟨wr.heap.size, 2, none⟩ = some (.string c.dst) := by simp
        have a3 := (World.cell?_alloc_lt wr (.cells #[.pointer q, .string c.src, .string c.dst] 61) (a := ⟨B, 3, none⟩) hB).trans c3
        generalize wr.alloc (.cells #[.pointer q, .string c.src, .string c.dst] 61) = wa at *
        generalize wr.heap.size = gq at *
        have d0 := cell_up a0
        have d1 := cell_up a1
        have d2 := cell_up a2
        have d3 := cell_up a3
        clear a0 a1 a2 a3 c3 s0 s1 s2 hB hg HF HOB HTk c4
        refine growT_begin 5 (by kernel_rfl) ?_
        refine growT_take (by kernel_rfl) [0, 1, 2, 3, 4] 1 _ _ (by kernel_rfl) ?_
        simp only [opsAt, List.getElem?_toArray, List.getElem?_cons_succ, List.getElem?_cons_zero]
        repeat (first | go_big_quiet_step (fail) | quiet_step (fail))
        refine wpQuiet_nil ?_
        intro w8 hw8
        have hb8 := below_of_up hw8
        have HF8 : Hid (Fr (fun j => x.sf = some j) w w8) := HFA.out.later hb8
        have HO8 := Lib.hid (own_fr HOA.out (Fr.of_below (X := fun _ => False) hb8) (fun h => h))
        clear d0 d1 d2 d3 hb8 hw8 HFA HOA
        refine growT_last (by kernel_rfl) (by kernel_rfl) (fun K hK => ?_)
        simp only [stepOf, List.getElem?_toArray, List.getElem?_cons_succ, List.getElem?_cons_zero]
        go_simp
        go_at_call 29
        refine (apply_any ι b (n + k) (didTo l D k) c (.pointer q) w8 HP.out HSZ.out.1 HSZ.out.2 (by unfold maxLen; omega) HO8.out).mono ?_
        rintro e w9 ⟨rfl, ho9, hg9⟩
        refine hK.out _ _ ?_
        clear hK K
        have HT9 : Hid (Tab ι w9 x.sf (n + (k + 1)) (didTo l D (k + 1))) := by
          rw [HDS.out]
          exact .inr ⟨b, HSF.out, ho9⟩
        have HF9 : Hid (Fr (fun j => x.sf = some j) w w9) := HF8.out.trans (Fr.of_grown hg9 fun b' e => by cases e; exact HSF.out)
        clear ho9 hg9 HO8 HF8
        go_wp2_with fail
        go_roundg (N - (k + 1))
        case measure => omega
        case rel => exact ⟨k + 1, by omega, Nat.le_refl _, by first | rfl | go_num | (congr 1; omega), HT9, HF9⟩
      · obtain rfl : k = N := by omega
        have hltz : ¬ (k : Int) < (k : Int) := by omega
        have hDk := HD.out.fr HF.out HXB.out
        have c5 : wr.cell? ⟨B, 4, none⟩ = some (.slice (some a) x.wl x.wc) := by rw [hDk.cell]; simp [Dk.cells, hwa]
        have f5 := hDk.loose 4
        have ok := hDk.ok
        have HE : Hid (DkAt (wr.setCell ⟨B, 4, none⟩ (.slice none 0 0)) B { x with wa := none, wl := 0, wc := 0 }) := hDk.set 4 _ ⟨ok.cap1, ok.cap2, ok.used1, ok.used2, ok.fl1, ok.fl2, ok.gl1, ok.gl2, Nat.zero_le _⟩ (by simp [Dk.cells])
        have HFE : Hid (Fr (Saf B x.sf) w (wr.setCell ⟨B, 4, none⟩ (.slice none 0 0))) := (HF.out.mono fun _ _ h => .inr h).set (fun _ => .inl rfl) _
        have HTE : Hid (Tab ι (wr.setCell ⟨B, 4, none⟩ (.slice none 0 0)) x.sf (n + k) (didTo l D k)) := HTk.out.fr (Fr.of_only (X := fun j => j = B) (Only.set B 4 wr _) rfl) fun b' e h => HXB.out (by rw [e, h])
        clear hDk ok HTk HF
        go_wp2_with fail
        go_end0
        exact ⟨rfl, HE.out, HTE.out, HFE.out⟩
end Go.Proofs.Ytoiggdcgfbjhpaa
