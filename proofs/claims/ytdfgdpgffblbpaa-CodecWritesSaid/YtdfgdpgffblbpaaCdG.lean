/-
  Package codec: an In in memory; take, fail.
-/
import Derived.Test.YtdfgdpgffblbpaaCdT
namespace Go.Proofs.Ytdfgdpgffblbpaa
open Go.ChangeShapes Go.WideShapes Go.ChangeAt Go.RowKit Go.Joins
set_option linter.unusedVariables false

/-- The block b is an In that has these bytes left (none: it is bad), all of it in blocks that X names, none of them below B. -/
def InAt (B : Nat) (X : Nat → Prop) (w : World) (b : Nat) (s : Option (List Nat)) : Prop :=
  X b ∧ (∀ k, X k → B ≤ k ∧ k < w.heap.size) ∧ ∃ a c, w.heap[b]? = some (.cells #[.slice a (s.getD []).length c, .bool s.isNone] 58 (0, 0)) ∧ Sl w a c (s.getD []) ∧ (s.getD []).length ≤ 60000 ∧ ∀ p, a = some p → (s.getD []) ≠ [] → X p.block ∧ p.block ≠ b
theorem InAt.keep {B : Nat} {X Y : Nat → Prop} {w w' : World} {b : Nat} {s : Option (List Nat)} (h : InAt B X w b s) (k : Fr Y w w') (hx : ∀ j, X j → ¬ Y j) : InAt B X w' b s := by
  obtain ⟨h1, h2, a, c, h3, h4, h5, h6⟩ := h
  exact ⟨h1, fun j hj => ⟨(h2 j hj).1, Nat.lt_of_lt_of_le (h2 j hj).2 k.size⟩, a, c, (k.block b (h2 b h1).2 (hx b h1)).trans h3, h4.of_block fun p hp hl => k.block _ (h2 _ (h6 p hp hl).1).2 (hx _ (h6 p hp hl).1), h5, h6⟩
theorem InAt.fail {B : Nat} {X : Nat → Prop} {w : World} {b : Nat} {s : Option (List Nat)} (h : InAt B X w b s) : InAt B X ((w.setCell ⟨b, 0, none⟩ (.slice none 0 0)).setCell ⟨b, 1, none⟩ (.bool true)) b none := by
  obtain ⟨h1, h2, a, c, h3, h4, h5, h6⟩ := h
  refine ⟨h1, fun k hk => by simpa using h2 k hk, none, 0, ?_, nil_sl _, by simp, fun p hp => by cases hp⟩
  have e1 := Joins.block_setCell (i := 0) h3 (.slice none 0 0)
  have e2 := Joins.block_setCell (i := 1) e1 (.bool true)
  simpa using e2
theorem InAt.frame {B : Nat} {X : Nat → Prop} {w : World} {b : Nat} {s : Option (List Nat)} (h : InAt B X w b s) (i : Nat) (u : Value) {v : World} (k : Fr X w v) : Fr X w (v.setCell ⟨b, i, none⟩ u) := k.set (p := ⟨b, i, none⟩) (fun _ => h.1) u

/-- The first n bytes, and what is behind them. -/
theorem Sl.front {w : World} {a : Option Addr} {c : Nat} {l : List Nat} (h : Sl w a c l) (n : Nat) : Sl w a c (l.take n) := by
  refine ⟨fun x hx => h.byte x (List.mem_of_mem_take hx), by have := h.len; rw [List.length_take]; omega, h.most, fun e => by rw [(h.none e).1]; exact ⟨List.take_nil, (h.none e).2⟩, ?_⟩
  rcases h.here with rfl | ⟨b, off, e, hb⟩
  · exact .inl List.take_nil
  · refine .inr ⟨b, off, e, fun i hi => ?_⟩
    rw [hb i (by rw [List.length_take] at hi; omega), List.getElem_take]
theorem Sl.back {w : World} {b off c : Nat} {l : List Nat} (h : Sl w (Option.some ⟨b, off, Option.none⟩) c l) (n : Nat) (hn : n ≤ l.length) : Sl w (Option.some ⟨b, off + n, Option.none⟩) (c - n) (l.drop n) := by
  refine ⟨fun x hx => h.byte x (List.mem_of_mem_drop hx), by have := h.len; rw [List.length_drop]; omega, by have := h.most; omega, fun e => (by cases e), ?_⟩
  rcases h.here with rfl | ⟨b', off', e, hb⟩
  · exact .inl List.drop_nil
  · cases e
    refine .inr ⟨b, off + n, rfl, fun i hi => ?_⟩
    rw [List.length_drop] at hi
    rw [show off + n + i = off + (n + i) by omega, hb (n + i) (by omega), List.getElem_drop]

set_option maxRecDepth 100000 in
theorem fail_any (B : Nat) (X : Nat → Prop) (w : World) (b : Nat) (s : Option (List Nat)) (h : InAt B X w b s) :
    Calls Try.prog 27 #[.pointer (some ⟨b, 0, none⟩)] w fun e w' => e = .returned (.tuple #[]) ∧ InAt B X w' b none ∧ Fr X w w' := by
  have HO := Lib.hid h.fail
  have HF := Lib.hid (h.frame 1 (.bool true) (h.frame 0 (.slice none 0 0) (Fr.refl X w)))
  obtain ⟨h1, h2, a, c, h3, h4, h5, h6⟩ := h
  have c0 := cell_of_block (i := 0) h3
  have c1 := cell_of_block (i := 1) h3
  have f0 := unfrozen_of_block h3 0
  have f1 := unfrozen_of_block h3 1
  simp only [List.getElem?_toArray, List.getElem?_cons_zero, List.getElem?_cons_succ] at c0 c1
  clear h1 h2 h3 h4 h5 h6
  go_enter Try.func27, Try.ntmps27
  go_wp2_with fail
  go_end0
  exact ⟨rfl, HO.out, HF.out⟩
set_option maxRecDepth 100000 in
theorem fail_nil (w : World) : Calls Try.prog 27 #[.pointer none] w fun e w' => e = .returned (.tuple #[]) ∧ w = w' := by
  go_enter Try.func27, Try.ntmps27
  go_wp2_with fail
  go_end0
  exact ⟨rfl, rfl⟩
set_option maxRecDepth 100000 in
theorem take_nil_in (w : World) (n : Int) : Calls Try.prog 28 #[.pointer none, .int .i64 n] w fun e w' => e = .returned (.slice none 0 0) ∧ w = w' := by
  go_enter Try.func28, Try.ntmps28
  go_wp2_with fail
  go_ret
  exact ⟨rfl, rfl⟩

theorem elem8 : Try.prog.elem 28 = 5 := by kernel_rfl
theorem und8 : Try.prog.underlying 28 = some (.slice (Try.prog.elem 28)) := by rw [elem8]; exact Try.underlying28
theorem cut_front {w : World} {a : Option Addr} {c : Nat} {l : List Nat} (h : Sl w a c l) (N : Nat) (hN : N ≤ l.length) (W : World) :
    (Instr.slice 28 (.slice a l.length c) none (some (.int .i64 (N : Int))) none).run Try.prog W = .ok (.slice a N c) W := by
  have hc := h.len
  rw [run_slice_h W 28 a l.length c und8 .i64 _ (by omega) (by omega), elem8, Try.sizeOf5]
  cases a with
  | none => simp [Result.andThen, sliced]
  | some ad => simp [Result.andThen, sliced, Addr.add]
theorem cut_back {w : World} {a : Option Addr} {c : Nat} {l : List Nat} (h : Sl w a c l) (N : Nat) (hN : N ≤ l.length) :
    ∃ a2, (∀ W, (Instr.slice 28 (.slice a l.length c) (some (.int .i64 (N : Int))) none none).run Try.prog W = .ok (.slice a2 (l.length - N) (c - N)) W) ∧ Sl w a2 (c - N) (l.drop N) ∧ ∀ p, a2 = some p → l.drop N ≠ [] → ∃ p0, a = some p0 ∧ p.block = p0.block := by
  have hc := h.len
  have hm := h.most
  have hr : ∀ W, (Instr.slice 28 (.slice a l.length c) (some (.int .i64 (N : Int))) none none).run Try.prog W = .ok (sliced a N l.length c 1) W := fun W => by
    rw [run_slice_l W 28 a l.length c und8 .i64 _ (by omega) (by omega), elem8, Try.sizeOf5]
    simp [Result.andThen]
  unfold sliced at hr
  rw [Nat.mul_one] at hr
  refine ⟨_, hr, ?_, ?_⟩
  · by_cases e : c = N
    · rw [if_pos e]
      have hd : l.drop N = [] := List.drop_eq_nil_of_le (by omega)
      rw [hd]
      exact ⟨by simp [IsByte], by simp, by omega, fun e' => ⟨rfl, by omega⟩, .inl rfl⟩
    · rw [if_neg e]
      by_cases hd : l.drop N = []
      · rw [hd]
        refine ⟨by simp [IsByte], by simp, by omega, fun e' => ?_, .inl rfl⟩
        cases a with
        | none => exact absurd (by have := (h.none rfl); have h2 := this.2; omega) e
        | some ad => simp at e'
      · have hl : N < l.length := by
          rcases Nat.lt_or_ge N l.length with h | h
          · exact h
          · exact absurd (List.drop_eq_nil_of_le h) hd
        obtain ⟨b, off, ea, hb⟩ := h.some hl
        subst ea
        have := h.back N hN
        have e2 : (⟨b, off, none⟩ : Addr).add N = ⟨b, off + N, none⟩ := by
          by_cases n0 : N = 0
          · subst n0; simp [Addr.add]
          · simp [Addr.add, n0]
        simp only [Option.map_some, e2]
        exact this
  · intro p hp hd
    have hl : N < l.length := by
      rcases Nat.lt_or_ge N l.length with h | h
      · exact h
      · exact absurd (List.drop_eq_nil_of_le h) hd
    obtain ⟨b, off, ea, hb⟩ := h.some hl
    subst ea
    rw [if_neg (by omega)] at hp
    have e2 : (⟨b, off, none⟩ : Addr).add N = ⟨b, off + N, none⟩ := by
      by_cases n0 : N = 0
      · subst n0; simp [Addr.add]
      · simp [Addr.add, n0]
    simp only [Option.map_some, e2] at hp
    cases hp
    exact ⟨_, rfl, rfl⟩

/-- What take answers: bytes in the In's own memory. -/
def TakePost (B : Nat) (X : Nat → Prop) (w : World) (b : Nat) (s : Option (List Nat)) (n : Int) (e : Ending) (w' : World) : Prop :=
  ∃ a c, e = .returned (.slice a (ansR s n).length c) ∧ Sl w' a c (ansR s n) ∧ InAt B X w' b (restR s n) ∧ Fr X w w'
set_option maxRecDepth 100000 in
set_option maxHeartbeats 1000000 in
theorem take_any (B : Nat) (X : Nat → Prop) (w : World) (b : Nat) (s : Option (List Nat)) (n : Int) (h : InAt B X w b s) (hn : i64R n) :
    Calls Try.prog 28 #[.pointer (some ⟨b, 0, none⟩), .int .i64 n] w (TakePost B X w b s n) := by
  have hn1 := hn.1
  have hn2 := hn.2
  have HFL := Lib.hid (fail_any B X w b s h)
  have H := Lib.hid h
  obtain ⟨h1, h2, a, c, h3, h4, h5, h6⟩ := h
  have c0 := cell_of_block (i := 0) h3
  have c1 := cell_of_block (i := 1) h3
  have f0 := unfrozen_of_block h3 0
  simp only [List.getElem?_toArray, List.getElem?_cons_zero, List.getElem?_cons_succ] at c0 c1
  by_cases g1 : n < 0
  · have HE : Hid (takeI s n = none) := by
      show _ = _
      unfold takeI
      cases s with
      | none => rfl
      | some l => simp only [Option.bind_some]; rw [if_neg (by omega)]
    have d1 : decide (n < 0) = true := decide_eq_true g1
    clear h1 h2 h3 h4 h5 h6
    go_enter Try.func28, Try.ntmps28
    go_wp2_with fail
    (with_reducible refine HFL.out.mono ?_)
    rintro e w' ⟨rfl, hi, hf⟩
    go_wp2_with fail
    go_ret
    unfold TakePost ansR restR
    rw [HE.out]
    exact ⟨none, 0, rfl, nil_sl _, hi, hf⟩
  · have d1 : decide (n < 0) = false := decide_eq_false g1
    obtain ⟨N, rfl⟩ : ∃ N : Nat, n = (N : Int) := ⟨n.toNat, by omega⟩
    obtain ⟨l, hl⟩ : ∃ l, l = s.getD [] := ⟨_, rfl⟩
    rw [← hl] at c0 h3 h4 h5 h6
    by_cases g2 : l.length < N
    · have HE : Hid (takeI s (N : Int) = none) := by
        show _ = _
        unfold takeI
        cases s with
        | none => rfl
        | some m =>
          simp only [Option.getD_some] at hl
          subst hl
          simp only [Option.bind_some]; rw [if_neg (by omega)]
      have d2 : decide ((l.length : Int) < (N : Int)) = true := decide_eq_true (by omega)
      clear h1 h2 h3 h4 h5 h6 hl
      go_enter Try.func28, Try.ntmps28
      go_wp2_with fail
      (with_reducible refine HFL.out.mono ?_)
      rintro e w' ⟨rfl, hi, hf⟩
      go_wp2_with fail
      go_ret
      unfold TakePost ansR restR
      rw [HE.out]
      exact ⟨none, 0, rfl, nil_sl _, hi, hf⟩
    · have d2 : decide ((l.length : Int) < (N : Int)) = false := decide_eq_false (by omega)
      have hNl : N ≤ l.length := by omega
      have hNz : (N : Int) ≤ (l.length : Int) := by omega
      obtain ⟨a2, hs2, k1, k2⟩ := cut_back h4 N hNl
      have hs1 := cut_front h4 N hNl
      have HT : Hid (∃ x r, takeI s (N : Int) = (if s.isNone then none else some (x, r)) ∧ x = l.take N ∧ r = l.drop N ∧ (s = none → N = 0 ∧ l = [])) := by
        cases s with
        | none =>
          simp only [Option.getD_none] at hl
          subst hl
          simp at hNl
          exact ⟨_, _, rfl, rfl, rfl, fun _ => ⟨hNl, rfl⟩⟩
        | some m =>
          simp only [Option.getD_some] at hl
          subst hl
          refine ⟨_, _, ?_, rfl, rfl, fun e => by cases e⟩
          simp [takeI, hNl]
      have HA : Hid (ansR s (N : Int) = l.take N ∧ (restR s (N : Int)).getD [] = l.drop N ∧ (restR s (N : Int)).isNone = s.isNone) := by
        obtain ⟨x, r, e1, e2, e3, e4⟩ := HT.out
        show _ ∧ _ ∧ _
        cases s with
        | none =>
          obtain ⟨q1, q2⟩ := e4 rfl
          subst q1 q2
          simp [ansR, restR, takeI]
        | some m =>
          simp only [Option.isNone_some] at e1
          simp [ansR, restR, e1, e2, e3]
      have HI : Hid (InAt B X (w.setCell ⟨b, 0, none⟩ (.slice a2 (l.length - N) (c - N))) b (restR s (N : Int)) ∧ Sl (w.setCell ⟨b, 0, none⟩ (.slice a2 (l.length - N) (c - N))) a c (l.take N)) := by
        obtain ⟨q1, q2, q3⟩ := HA.out
        have hf : ∀ k, k ≠ b → (w.setCell ⟨b, 0, none⟩ (.slice a2 (l.length - N) (c - N))).heap[k]? = w.heap[k]? := fun k hk => Below.heap_setCell _ _ _ _ hk
        refine ⟨⟨h1, fun k hk => by rw [World.size_setCell]; exact h2 k hk, a2, c - N, ?_, ?_, ?_, ?_⟩, ?_⟩
        · have e1 := Joins.block_setCell (i := 0) h3 (.slice a2 (l.length - N) (c - N))
          rw [q2, q3, List.length_drop]
          simpa using e1
        · rw [q2]
          exact k1.of_block fun p hp hd => by
            obtain ⟨p0, e0, e1⟩ := k2 p hp hd
            rw [e1]
            exact hf _ (h6 p0 e0 fun e => hd (by rw [e, List.drop_nil])).2
        · rw [q2, List.length_drop]; omega
        · rw [q2]
          intro p hp hd
          obtain ⟨p0, e0, e1⟩ := k2 p hp hd
          rw [e1]
          exact h6 p0 e0 fun e => hd (by rw [e, List.drop_nil])
        · exact (h4.front N).of_block fun p hp hd => hf _ (h6 p hp fun e => hd (by rw [e, List.take_nil])).2
      have HF : Hid (Fr X w (w.setCell ⟨b, 0, none⟩ (.slice a2 (l.length - N) (c - N)))) := H.out.frame 0 _ (Fr.refl _ _)
      clear h1 h2 h3 h4 h5 h6 hl k1 k2
      go_enter Try.func28, Try.ntmps28
      go_wp2_with fail
      go_ret
      obtain ⟨q1, q2, q3⟩ := HA.out
      refine ⟨a, c, ?_, by rw [q1]; exact HI.out.2, HI.out.1, HF.out⟩
      rw [q1, List.length_take, Nat.min_eq_left hNl]
      rfl
end Go.Proofs.Ytdfgdpgffblbpaa
