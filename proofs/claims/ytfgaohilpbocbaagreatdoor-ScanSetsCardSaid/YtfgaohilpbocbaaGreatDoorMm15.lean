/-
  slices.Reverse over slices of bytes; bytes.Join of nothing between, as the shelf has it.
  bytes.Join of nothing between: the pieces one behind the other.
  Package codec: an Out's End.
  Package packet: what is told, plain mathematics; an Out that is told a packet.
  Package packet: tell.
-/
import Derived.Test.YtfgaohilpbocbaaGreatDoorMm14
import Derived.BigRegion
import Derived.Deep.Slices
section
namespace Go.Proofs.YtfgaohilpbocbaaGreatDoor
open Go.ChangeShapes Go.WideShapes Go.ChangeAt Go.RowKit Go.Joins
set_option linter.unusedVariables false

theorem Fr.drewN {X : Nat → Prop} {a w : World} (h : Fr X a w) : Fr X a w.drew := ⟨h.os, h.tape, h.output, h.size, h.block⟩
/-- Cells turned round, the first k and the last k of n. -/
def turnV (f : Nat → Value) (n k j : Nat) : Value := if j < k ∨ n ≤ j + k then f (n - 1 - j) else f j
set_option maxRecDepth 100000 in
set_option maxHeartbeats 4000000 in
theorem reverse_any (g cap n : Nat) (A : Nat → Option Addr) (M C : Nat → Nat) (w : World) (hR : Row w g 53 cap n (fun j => .slice (A j) (M j) (C j))) (hn : n ≤ cap) (hc : cap ≤ maxLen) (h6 : n ≤ 1000000) :
    Calls Tryz.prog 180 #[.slice (some ⟨g, 0, none⟩) n cap] w fun e w' => e = .returned (.tuple #[]) ∧ Row w' g 53 cap n (fun j => .slice (A (n - 1 - j)) (M (n - 1 - j)) (C (n - 1 - j))) ∧ Fr (fun k => k = g) w w' := by
  have mixed : Tryz.prog.follows .mixedOrders = true := by kernel_rfl
  have HR0 : Hid (Row w g 53 cap n (turnV (fun j => .slice (A j) (M j) (C j)) n 0)) := hR.mono (Nat.le_refl _) fun j hj => by unfold turnV; rw [if_neg (by omega)]
  have HF0 : Hid (Fr (fun k => k = g) w w) := Fr.refl _ _
  clear hR
  go_enter Tryz.func180, Tryz.ntmps180
  go_wp2_with fail
  go_loopw [2, 3] (fun i j wr => ∃ k : Nat, k ≤ n ∧ 2 * k ≤ n + 1 ∧ i = .int .i64 (k : Int) ∧ j = .int .i64 ((n : Int) - 1 - (k : Int)) ∧ Hid (Row wr g 53 cap n (turnV (fun j => .slice (A j) (M j) (C j)) n k)) ∧ Hid (Fr (fun k => k = g) w wr)) (fun i _ _ => n - (intOf i).toNat)
  case atStart => exact ⟨0, by omega, by omega, rfl, by go_num, HR0, HF0⟩
  case round =>
    obtain ⟨k, hk, hk2, rfl, rfl, HR, HF⟩ := hrel
    clear HR0 HF0
    by_cases hlt : (k : Int) < (n : Int) - 1 - (k : Int)
    · obtain ⟨m, hm⟩ : ∃ m : Nat, (n : Int) - 1 - (k : Int) = (m : Int) := ⟨n - 1 - k, by omega⟩
      rw [hm] at hlt ⊢
      have hkm : k < m := by omega
      have hmn : m < n := by omega
      have hkn : k < n := by omega
      have hkz : (k : Int) < (n : Int) := by omega
      have hmz : (m : Int) < (n : Int) := by omega
      have ck := HR.out.cell k hkn
      have cm := HR.out.cell m hmn
      have fk := HR.out.loose k
      have fm := HR.out.loose m
      have e1 : turnV (fun j => .slice (A j) (M j) (C j)) n k k = .slice (A k) (M k) (C k) := by unfold turnV; rw [if_neg (by omega)]
      have e2 : turnV (fun j => .slice (A j) (M j) (C j)) n k m = .slice (A m) (M m) (C m) := by unfold turnV; rw [if_neg (by omega)]
      rw [e1] at ck
      rw [e2] at cm
      have HRN : Hid (Row ((wr.setCell ⟨g, k, none⟩ (.slice (A m) (M m) (C m))).setCell ⟨g, m, none⟩ (.slice (A k) (M k) (C k))) g 53 cap n (turnV (fun j => .slice (A j) (M j) (C j)) n (k + 1))) :=
        ((HR.out.upd k (by omega) _).upd m (by omega) _).mono (Nat.le_refl _) fun j hj => by
          have hmk : m = n - 1 - k := by omega
          by_cases e : j = m
          · subst e
            simp only [if_true]
            unfold turnV
            rw [if_pos (by omega), show n - 1 - j = k by omega]
          · rw [if_neg e]
            by_cases e' : j = k
            · subst e'
              simp only [if_true]
              unfold turnV
              rw [if_pos (by omega), hmk]
            · rw [if_neg e']
              unfold turnV
              by_cases h : j < k ∨ n ≤ j + k
              · rw [if_pos h, if_pos (by omega)]
              · rw [if_neg h, if_neg (by omega)]
      have HFN : Hid (Fr (fun k => k = g) w ((wr.setCell ⟨g, k, none⟩ (.slice (A m) (M m) (C m))).setCell ⟨g, m, none⟩ (.slice (A k) (M k) (C k)))) := (HF.out.set (p := ⟨g, k, none⟩) (fun _ => rfl) _).set (p := ⟨g, m, none⟩) (fun _ => rfl) _
      have h2k : 2 * (k + 1) ≤ n + 1 := by omega
      have HM := Lib.hid hm
      clear hm e1 e2
      generalize A k = ak at *
      generalize M k = mk at *
      generalize C k = ck' at *
      generalize A m = am at *
      generalize M m = mm at *
      generalize C m = cm' at *
      have hdd : decide ((k : Int) < (m : Int)) = true := decide_eq_true hlt
      go_wp2_with fail
      go_big_region_o
      go_wp2_with fail
      go_roundw
      case rel => exact ⟨k + 1, by omega, h2k, by go_num, by have := HM.out; first | (congr 1; omega) | go_num, HRN, HFN.out.drewN⟩
      case measure => simp [intOf]; omega
    · have hdd : decide ((k : Int) < (n : Int) - 1 - (k : Int)) = false := decide_eq_false hlt
      have HE : Hid (Row wr g 53 cap n (fun j => .slice (A (n - 1 - j)) (M (n - 1 - j)) (C (n - 1 - j)))) := HR.out.mono (Nat.le_refl _) fun j hj => by
        unfold turnV
        by_cases h : j < k ∨ n ≤ j + k
        · rw [if_pos h]
        · rw [if_neg h, show n - 1 - j = j by omega]
      go_wp2_with fail
      go_end0
      exact ⟨rfl, HE.out, HF.out⟩
set_option maxRecDepth 100000 in
theorem reverse_none (w : World) : Calls Tryz.prog 180 #[.slice none 0 0] w fun e w' => e = .returned (.tuple #[]) ∧ w = w' := by
  go_enter Tryz.func180, Tryz.ntmps180
  go_wp2_with fail
  go_loopw [2, 3] (fun i j wr => i = .int .i64 0 ∧ j = .int .i64 (-1) ∧ Hid (w = wr)) (fun i _ _ => 0)
  case atStart => exact ⟨rfl, rfl, rfl⟩
  case round =>
    obtain ⟨rfl, rfl, HW⟩ := hrel
    go_wp2_with fail
    go_end0
    exact ⟨rfl, HW.out⟩
end Go.Proofs.YtfgaohilpbocbaaGreatDoor
end

section
namespace Go.Proofs.YtfgaohilpbocbaaGreatDoor
open Go.ChangeShapes Go.WideShapes Go.ChangeAt Go.RowKit Go.Joins
set_option linter.unusedVariables false

def u8L (l : List Nat) : List UInt8 := l.map fun n => UInt8.ofNat n
theorem u8L_len (l : List Nat) : (u8L l).length = l.length := by simp [u8L]
theorem u8L_get {l : List Nat} (hb : IsByte l) {i : Nat} {x : UInt8} (h : (u8L l)[i]? = some x) : ∃ hi : i < l.length, (x.toNat : Int) = ((l[i] : Nat) : Int) := by
  unfold u8L at h
  rw [List.getElem?_map] at h
  obtain ⟨n, hn, rfl⟩ := Option.map_eq_some_iff.1 h
  obtain ⟨hi, rfl⟩ := List.getElem?_eq_some_iff.1 hn
  have := hb l[i] (List.getElem_mem hi)
  refine ⟨hi, ?_⟩
  simp
  omega
theorem holds_of_sl {w : World} {a : Option Addr} {c : Nat} {l : List Nat} (h : Sl w a c l) : Lib.HoldsBytes w (.slice a l.length c) (u8L l) := by
  refine ⟨a, c, by rw [u8L_len], fun e => by rw [(h.none e).1]; rfl, fun p hp i x hx => ?_⟩
  obtain ⟨hi, e⟩ := u8L_get h.byte hx
  obtain ⟨b, off, e1, hb⟩ := h.some hi
  rw [e1] at hp
  cases hp
  have := hb i hi
  rw [e]
  by_cases i0 : i = 0
  · subst i0; simpa [Addr.add] using this
  · simpa [Addr.add, i0] using this
theorem join_flat : ∀ (ls : List (List Nat)), Lib.join (ls.map u8L) [] = u8L ls.flatten
  | [] => rfl
  | x :: r => by
    rw [List.map_cons, Lib.join_cons]
    unfold Lib.joinTail
    simp [u8L, List.map_flatten]
    rfl
theorem lens_flat : ∀ (ls : List (List Nat)), Lib.lens (ls.map u8L) = ls.flatten.length
  | [] => rfl
  | x :: r => by
    have := lens_flat r
    simp only [Lib.lens, List.map_cons, List.sum_cons, List.flatten_cons, List.length_append, u8L_len] at this ⊢
    omega
theorem sl_of_fresh {B : Nat} {w : World} {v : Value} {l : List Nat} (hb : IsByte l) (h : Lib.FreshBytes B w v (u8L l)) : ∃ a c, v = .slice a l.length c ∧ Sl w a c l := by
  obtain ⟨g, cap, zs, rfl, h1, h2, h3, h4, h5, h6, h7, h8⟩ := h
  rw [u8L_len] at h2 h6 ⊢
  refine ⟨_, _, rfl, hb, h2, h3, fun e => (by cases e), .inr ⟨g, 0, rfl, fun i hi => ?_⟩⟩
  rw [Nat.zero_add, h7 i (by omega)]
  have hz : i < zs.length := by omega
  have h9 : (Lib.bytesOf (zs.take l.length))[i]? = (u8L l)[i]? := by rw [h6]
  have hr := h5 zs[i] (List.getElem_mem hz)
  have hn := hb l[i] (List.getElem_mem hi)
  simp only [Lib.bytesOf, u8L, List.getElem?_map, List.getElem?_take, if_pos hi, List.getElem?_eq_getElem hz, List.getElem?_eq_getElem hi, Option.map_some, Option.some.injEq] at h9
  have h10 : zs[i].toNat % 256 = l[i] % 256 := by
    have := congrArg UInt8.toNat h9
    simpa using this
  have e : zs.getD i 0 = zs[i] := by simp [List.getD, hz]
  rw [e]
  congr 2
  omega

theorem join_any (g cap : Nat) (ls : List (List Nat)) (A : Nat → Option Addr) (C : Nat → Nat) (w : World) (hR : Row w g 53 cap ls.length (fun j => .slice (A j) (ls.getD j []).length (C j))) (hc : ls.length ≤ cap)
    (hS : ∀ j, j < ls.length → Sl w (A j) (C j) (ls.getD j [])) (hne : ∀ x ∈ ls, x ≠ []) (hn : ls.length ≤ 1000000) (ht : ls.flatten.length ≤ 1000000) :
    Calls Tryz.prog 181 #[.slice (some ⟨g, 0, none⟩) ls.length cap, .slice none 0 0] w fun e w' => ∃ a c, e = .returned (.slice a ls.flatten.length c) ∧ Sl w' a c ls.flatten ∧ Below w.heap.size w w' := by
  have hby : ∀ x ∈ ls, IsByte x := fun x hx => by
    obtain ⟨i, hi, rfl⟩ := List.getElem_of_mem hx
    have := (hS i hi).byte
    simpa [List.getD, hi] using this
  have hbf : IsByte ls.flatten := fun n hn => by
    obtain ⟨x, hx, hnx⟩ := List.mem_flatten.1 hn
    exact hby x hx n hnx
  match ls, hR, hc, hS, hne, hn, ht, hby, hbf with
  | [], hR, hc, hS, hne, hn, ht, hby, hbf =>
    have := Any.bytes_Join_none lay_joinB (some ⟨g, 0, none⟩) cap (.slice none 0 0) w
    refine Calls.mono (P := Tryz.prog) (f := 181) this ?_
    rintro e w' ⟨rfl, rfl⟩
    exact ⟨_, 0, rfl, ⟨hbf, by simp, by simp, fun e => (by cases e), .inl rfl⟩, (Below.refl _ _).alloc (Nat.le_refl _) _⟩
  | [x], hR, hc, hS, hne, hn, ht, hby, hbf =>
    have hs0 : Sl w (A 0) (C 0) x := by simpa [List.getD] using hS 0 (by simp)
    have hx := hne x (by simp)
    have hx0 : 0 < x.length := List.length_pos_iff.2 hx
    obtain ⟨b, off, e, hb⟩ := hs0.some hx0
    have hcell : w.cell? ⟨g, 0, none⟩ = some (.slice (some ⟨b, off, none⟩) (u8L x).length (C 0)) := by
      rw [hR.cell 0 (by simp), u8L_len, e]
      simp [List.getD]
    have hh := holds_of_sl hs0
    obtain ⟨p, c', e1, _, h2⟩ := hh
    have hp : p = some ⟨b, off, none⟩ := by
      rw [e] at e1
      injection e1 with q1 _ _
      exact q1.symm
    have := Any.bytes_Join_one lay_joinB g 0 cap ⟨b, off, none⟩ (C 0) (u8L x) (.slice none 0 0) w hcell (fun i y hy => h2 _ hp i y hy) (by rw [u8L_len]; exact hx0) (by rw [u8L_len]; simp at ht; omega)
    refine Calls.mono (P := Tryz.prog) (f := 181) this ?_
    rintro e w' ⟨v, rfl, hf, hbl⟩
    have hxf : [x].flatten = x := by simp
    rw [hxf] at hbf ⊢
    obtain ⟨a, c, rfl, hsl⟩ := sl_of_fresh hbf hf
    exact ⟨a, c, rfl, hsl, hbl⟩
  | x :: y :: r, hR, hc, hS, hne, hn, ht, hby, hbf =>
    generalize hls : x :: y :: r = ls at *
    have h2 : 2 ≤ ls.length := by rw [← hls]; simp
    have hP : Lib.PartsAt w ⟨g, 0, none⟩ ((List.range ls.length).map fun j => Value.slice (A j) (ls.getD j []).length (C j)) (ls.map u8L) := by
      refine ⟨by simp, fun i v hv => ?_, fun i v l hv hl => ?_⟩
      · rw [List.getElem?_map] at hv
        obtain ⟨j, hj, rfl⟩ := Option.map_eq_some_iff.1 hv
        obtain ⟨hi, rfl⟩ := List.getElem?_eq_some_iff.1 hj
        have hi2 : i < ls.length := by simpa using hi
        have := hR.cell i hi2
        by_cases i0 : i = 0
        · subst i0; simpa [Addr.add] using this
        · simpa [Addr.add, i0] using this
      · rw [List.getElem?_map] at hv hl
        obtain ⟨j, hj, rfl⟩ := Option.map_eq_some_iff.1 hv
        obtain ⟨hi, rfl⟩ := List.getElem?_eq_some_iff.1 hj
        obtain ⟨m, hm, rfl⟩ := Option.map_eq_some_iff.1 hl
        obtain ⟨hi2, rfl⟩ := List.getElem?_eq_some_iff.1 hm
        have := hS i hi2
        have e : ls.getD i [] = ls[i] := by simp [List.getD, hi2]
        rw [e] at this
        have h := holds_of_sl this
        simpa [hi2] using h
    have := Any.bytes_Join_many lay_joinB g 0 ls.length cap _ (ls.map u8L) (.slice none 0 0) [] w (by simp) h2 hP hc ⟨none, 0, rfl, fun _ => rfl, fun a ha => by cases ha⟩ (by omega) (by rw [lens_flat, List.length_nil, Nat.zero_mul]; omega)
    refine Calls.mono (P := Tryz.prog) (f := 181) this ?_
    rintro e w' ⟨v, rfl, hf, hbl⟩
    rw [join_flat] at hf
    obtain ⟨a, c, rfl, hsl⟩ := sl_of_fresh hbf hf
    exact ⟨a, c, rfl, hsl, hbl⟩
end Go.Proofs.YtfgaohilpbocbaaGreatDoor
end

section
namespace Go.Proofs.YtfgaohilpbocbaaGreatDoor
open Go.ChangeShapes Go.WideShapes Go.ChangeAt Go.RowKit Go.Joins
set_option linter.unusedVariables false

/-- Pieces that a call gathered, turned round and joined. -/
theorem own_rev (B : Nat) (w : World) (v : Value) (ls : List (List Nat)) (hO : Own B w v ls) (hB : B ≤ w.heap.size) (hne : ∀ x ∈ ls, x ≠ []) (hn : ls.length ≤ 100000) (ht : ls.reverse.flatten.length ≤ 100000) :
    Calls Tryz.prog 180 #[v] w fun e w' => e = .returned (.tuple #[]) ∧ Below B w w' ∧
      Calls Tryz.prog 181 #[v, .slice none 0 0] w' fun e w'' => ∃ a c, e = .returned (.slice a ls.reverse.flatten.length c) ∧ Sl w'' a c ls.reverse.flatten ∧ Below w'.heap.size w' w'' := by
  obtain ⟨xs, ho, hxs⟩ := hO
  rcases ho.2 with ⟨rfl, h0⟩ | ⟨g, cap, cur, rfl, hg, hh, h1, h2, h3, h4⟩
  · have e : ls = [] := List.eq_nil_of_length_eq_zero h0
    subst e
    refine (reverse_none w).mono ?_
    rintro e w' ⟨rfl, rfl⟩
    refine ⟨rfl, Below.refl _ _, ?_⟩
    have := Any.bytes_Join_none lay_joinB none 0 (.slice none 0 0) w
    refine Calls.mono (P := Tryz.prog) (f := 181) this ?_
    rintro e w' ⟨rfl, rfl⟩
    exact ⟨_, 0, rfl, ⟨by simp [IsByte], by simp, by simp, fun e => (by cases e), .inl rfl⟩, (Below.refl _ _).alloc (Nat.le_refl _) _⟩
  · obtain ⟨f, hf⟩ := Go.Deep.choose_lt (α := Option Addr × Nat) (p := fun i u => ∀ hi : i < ls.length, xs[i]? = some (.slice u.1 ls[i].length u.2) ∧ Rw B w u.1 u.2 ls[i]) (n := ls.length) fun i hi => by
      obtain ⟨a, c, e1, e2⟩ := hxs i hi
      exact ⟨(a, c), fun _ => ⟨e1, e2⟩⟩
    have hgt : g < w.heap.size := (Array.getElem?_eq_some_iff.1 hh).1
    have hR : Row w g 53 cap ls.length (fun j => .slice (f j).1 (ls.getD j []).length (f j).2) := by
      refine ⟨cur, hh, by simpa using h3, fun j hj => ?_⟩
      have e := (hf j hj hj).1
      rw [← h4, Nat.mul_one, List.getElem?_take, if_pos hj] at e
      have e' : ls.getD j [] = ls[j] := by simp [List.getD, hj]
      show cur[j]? = some (Value.slice (f j).1 (ls.getD j []).length (f j).2)
      rw [e']
      simpa using e
    have hrv := reverse_any g cap ls.length (fun j => (f j).1) (fun j => (ls.getD j []).length) (fun j => (f j).2) w hR h1 h2 (by omega)
    refine hrv.mono ?_
    rintro e w' ⟨rfl, hR', hF⟩
    refine ⟨rfl, hF.below hB fun k hk e => by omega, ?_⟩
    have hlr : ls.reverse.length = ls.length := List.length_reverse
    have hgd : ∀ j, j < ls.length → ls.reverse.getD j [] = ls.getD (ls.length - 1 - j) [] := fun j hj => by
      simp only [List.getD, List.getElem?_reverse hj]
    have := join_any g cap ls.reverse (fun j => (f (ls.length - 1 - j)).1) (fun j => (f (ls.length - 1 - j)).2) w' (by
      rw [hlr]
      refine hR'.mono (Nat.le_refl _) fun j hj => ?_
      simp only [hgd j hj]) (by rw [hlr]; exact h1) (fun j hj => by
        rw [hlr] at hj
        have hj2 : ls.length - 1 - j < ls.length := by omega
        have e := (hf _ hj2 hj2).2
        rw [hgd j hj, show ls.getD (ls.length - 1 - j) [] = ls[ls.length - 1 - j] by simp [List.getD, hj2]]
        refine e.sl.of_block fun p hp hl => hF.block _ (e.sl.blk p hp hl) fun eg => ?_
        rcases e.tag hl p hp with h | ⟨cs, r, h⟩
        · omega
        · rw [eg, hh] at h
          injection h with h
          injection h with _ h
          exact absurd h (by decide)) (fun x hx => hne x (List.mem_reverse.1 hx)) (by rw [hlr]; omega) (by omega)
    rw [hlr] at this
    exact this

set_option maxRecDepth 100000 in
set_option maxHeartbeats 2000000 in
theorem end_ok (X : Nat → Prop) (w : World) (b : Nat) (l : List Nat) (q : Nat) (h : OutAt X w b (some l) q) (hq : q ≤ 50000) :
    Calls Tryz.prog 139 #[.pointer (some ⟨b, 0, none⟩)] w fun e w' => ∃ a c, e = .returned (.tuple #[.slice a l.length c, .int .i64 0]) ∧ Sl w' a c l ∧ Below w.heap.size w w' := by
  have hbl : b < w.heap.size := h.2.1 b h.1
  obtain ⟨h1, h2, p, h3, h4⟩ := h
  obtain ⟨hlq, Y, L, h6, h7, h8, h9⟩ := h4 l rfl
  have c0 := cell_of_block (i := 0) h3
  have c1 := cell_of_block (i := 1) h3
  simp only [List.getElem?_toArray, List.getElem?_cons_zero, List.getElem?_cons_succ, Option.isNone_some] at c0 c1
  have hL := h8.few
  rw [h9] at hL
  have hL2 : L.length ≤ 50000 := by omega
  have HL9 := Lib.hid h9
  have HLQ : Hid (l.length ≤ 50000) := by show _ ≤ _; omega
  have HNE : Hid (∀ x ∈ L, x ≠ []) := by
    have : ∀ (L : List (List Nat)) (p : Option Addr), Chain Y w L p → ∀ x ∈ L, x ≠ [] := by
      intro L
      induction L with
      | nil => intro p h x hx; cases hx
      | cons y L ih =>
        rintro p ⟨g, a, c, p', k1, k2, k3, k4, k5, k6, k7⟩ x hx
        rcases List.mem_cons.1 hx with rfl | hx
        · exact k5
        · exact ih p' k7 x hx
    exact this L p h8
  have HY : Hid (∀ k, Y k → k < w.heap.size) := fun k hk => h2 k (h7 k hk)
  have HC : Hid (Chain Y w L p) := h8
  have HO0 : Hid (Own w.heap.size w (.slice none 0 0) []) := Own.nil _ _
  clear h1 h2 h3 h4 h6 h7 h8 h9 hL hlq
  go_enter Tryz.func139, Tryz.ntmps139
  go_wp2_with fail
  go_loopg [4, 5] 50000 (fun gg s4 s5 wr => ∃ (M R : List (List Nat)) (pp : Option Addr), s5 = .pointer pp ∧ Hid (L = M.reverse.reverse ++ R) ∧ Hid (Chain Y w R pp) ∧ Hid (Own w.heap.size wr s4 M) ∧ Hid (Below w.heap.size w wr) ∧ R.length ≤ gg ∧ M.length + R.length ≤ 50000)
  case atStart => exact ⟨[], L, p, rfl, rfl, HC, HO0, Below.refl _ _, hL2, by simpa using hL2⟩
  case round =>
    obtain ⟨M, R, pp, rfl, HLM, HCH, HO, HB, hg, hmr⟩ := hrel
    clear HC HO0
    match R, HLM, HCH, hg, hmr with
    | [], HLM, HCH, hg, hmr =>
      have e : pp = none := HCH.out
      subst e
      have eM : L = M := by rw [HLM.out]; simp
      have HR := Lib.hid (own_rev w.heap.size wr u4 M HO.out HB.out.size (by rw [← eM]; exact HNE.out) (by rw [← eM]; omega) (by rw [← eM, HL9.out]; have := HLQ.out; omega))
      rw [← eM, HL9.out] at HR
      clear HLM HCH HO eM
      go_wp2_with fail
      (with_reducible refine HR.out.mono ?_)
      rintro e w2 ⟨rfl, hb2, hj⟩
      have HJ := Lib.hid hj
      have HB2 := Lib.hid (HB.out.trans hb2)
      clear hb2 hj HR
      go_wp2_with fail
      (with_reducible refine HJ.out.mono ?_)
      rintro e w3 ⟨a3, c3, rfl, hsl, hb3⟩
      have HS := Lib.hid hsl
      have HB3 := Lib.hid (HB2.out.trans (hb3.mono HB2.out.size))
      clear hsl hb3 HJ
      go_wp2_with fail
      go_ret2
      exact ⟨a3, c3, rfl, HS.out, HB3.out⟩
    | x :: R, HLM, HCH, hg, hmr =>
      obtain ⟨g, a, c, p', rfl, k2, k3, k4, k5, k6, k7⟩ := HCH.out
      have hgl := HY.out g k2
      have hwg := (HB.out.block g hgl).trans k3
      have d0 := cell_of_block (i := 0) hwg
      have d1 := cell_of_block (i := 1) hwg
      simp only [List.getElem?_toArray, List.getElem?_cons_zero, List.getElem?_cons_succ] at d0 d1
      have HRW : Hid (Rw w.heap.size wr a c x) := (Rw.of_sl k4).below HB.out
      have HK3 := Lib.hid k3
      have HC2 := Lib.hid k7
      have HLM2 : Hid (L = (M ++ [x]).reverse.reverse ++ R) := by show _ = _; rw [HLM.out]; simp
      have hlen : M.length ≤ 100000 := by simp at hmr; omega
      have hr2 : R.length + 1 ≤ gk := by simpa using hg
      have hmr2 : M.length + 1 + R.length ≤ 50000 := by simp at hmr; omega
      have hxl := k4.lt
      clear HCH HLM hwg k2 k3 k4 k5 k6 k7 hg hmr
      go_wp2_with (at_builtin; refine wpList_push_rows _ rfl _ _ rfl w.heap.size _ _ rfl (HO.out.keep ((Below.refl _ _).alloc (Nat.le_refl _) _)) wr.heap.size rfl a c x (by simp) (HRW.out.below ((Below.refl _ _).alloc (Nat.le_refl _) _)) (by have := HB.out.size; simp; omega) hlen ?_; intro v' w2 HO2 hk2; have HB2 := Lib.hid ((HB.out.alloc HB.out.size _).trans (hk2.below (by have := HB.out.size; simp; omega))); have e0 := cell_of_block (i := 0) ((HB2.out.block g hgl).trans HK3.out); simp only [List.getElem?_toArray, List.getElem?_cons_zero] at e0; clear hk2)
      go_roundg (gk - 1)
      case measure => omega
      case rel => exact ⟨M ++ [x], R, p', rfl, HLM2, HC2, HO2, HB2, by omega, by rw [List.length_append]; exact hmr2⟩

set_option maxRecDepth 100000 in
theorem end_bad (X : Nat → Prop) (w : World) (b q : Nat) (h : OutAt X w b none q) :
    Calls Tryz.prog 139 #[.pointer (some ⟨b, 0, none⟩)] w fun e w' => ∃ a c, e = .returned (.tuple #[.slice a 0 c, .int .i64 1]) ∧ Below w.heap.size w w' := by
  obtain ⟨h1, h2, p, h3, h4⟩ := h
  have c1 := cell_of_block (i := 1) h3
  simp only [List.getElem?_toArray, List.getElem?_cons_zero, List.getElem?_cons_succ, Option.isNone_none] at c1
  clear h1 h2 h3 h4
  go_enter Tryz.func139, Tryz.ntmps139
  go_wp2_with fail
  go_ret2
  exact ⟨none, 0, rfl, Below.refl _ _⟩
set_option maxRecDepth 100000 in
theorem end_nil (w : World) : Calls Tryz.prog 139 #[.pointer none] w fun e w' => ∃ a c, e = .returned (.tuple #[.slice a 0 c, .int .i64 1]) ∧ Below w.heap.size w w' := by
  go_enter Tryz.func139, Tryz.ntmps139
  go_wp2_with fail
  go_ret2
  exact ⟨none, 0, rfl, Below.refl _ _⟩
/-- What an Out does. -/
theorem outC : OutC OutAt :=
  ⟨OutAt.zero, fun h k hx => h.keep k hx, fun h => h.2.1, fun h hq => h.mono hq, outN_any, outT_any, outR_any, fun X w b l q h hq => end_ok X w b l q h (by omega), fun X w b q h _ => end_bad X w b q h, outN_nil, outT_nil, outR_nil, end_nil⟩
end Go.Proofs.YtfgaohilpbocbaaGreatDoor
end

section
namespace Go.Proofs.YtfgaohilpbocbaaGreatDoor
open Go.ChangeShapes Go.WideShapes Go.ChangeAt Go.RowKit Go.Joins
set_option linter.unusedVariables false

/-! What is told. -/

def tell0 (s : Option (List Nat)) (p : Pk) : Option (List Nat) := addO s (putN p.kind 1)
def tell1 (s : Option (List Nat)) (p : Pk) : Option (List Nat) := addO (addO (addO s (putN p.slice 2)) (putN p.files 1)) (putN p.slices 2)
def tell2 (s : Option (List Nat)) (p : Pk) : Option (List Nat) := addO (addO (addO (addO (addO s (putN p.index 1)) (putT p.file.name)) (putN p.file.size 4)) (some p.file.dg)) (putN p.file.first 2)
def tellSm (s : Option (List Nat)) (x : Sm) : Option (List Nat) := addO (addO (addO s (putN x.n 2)) (putN (x.crc : Int) 4)) (some x.dg)
def tell3 (s : Option (List Nat)) (p : Pk) : Option (List Nat) := p.sums.foldl tellSm (addO (addO s (putN p.index 1)) (putN (p.sums.length : Int) 2))
def tell4 (s : Option (List Nat)) (p : Pk) : Option (List Nat) := addO (addO s (putN (p.id : Int) 4)) (some p.data)
def tellN (s : Option (List Nat)) (p : Pk) : Option (List Nat) :=
  if p.kind = 1 then tell1 (tell0 s p) p else if p.kind = 2 then tell2 (tell0 s p) p else if p.kind = 3 then tell3 (tell0 s p) p else if p.kind = 4 then tell4 (tell0 s p) p else tell0 s p
/-- A bound on how many bytes. -/
def tellQ (p : Pk) : Nat := 100 + p.file.name.length + 44 * p.sums.length + p.data.length

theorem putN_get {v n : Int} {x : List Nat} (h : putN v n = some x) : 0 ≤ v ∧ v < 256 ^ n.toNat ∧ x = wideN v.toNat n.toNat := by
  unfold putN at h
  split at h
  · rename_i hc
    cases h
    exact ⟨hc.2.2.1, hc.2.2.2, rfl⟩
  · cases h
theorem putN_of {v n : Int} (h1 : 1 ≤ n ∧ n ≤ 6) (h2 : 0 ≤ v ∧ v < 256 ^ n.toNat) : putN v n = some (wideN v.toNat n.toNat) := by
  unfold putN
  rw [if_pos ⟨h1.1, h1.2, h2.1, h2.2⟩]
theorem addO_parts {a b : Option (List Nat)} {l : List Nat} (h : addO a b = some l) : ∃ x y, a = some x ∧ b = some y ∧ l = x ++ y := addO_some h
theorem addO_of (x y : List Nat) : addO (some x) (some y) = some (x ++ y) := rfl
theorem tellSm_addO (s : Option (List Nat)) (x : Sm) : tellSm s x = addO s (tellSm (some []) x) := by
  unfold tellSm
  rw [nil_addO, addO_assoc, addO_assoc, addO_assoc]
theorem foldSm_addO : ∀ (L : List Sm) (s : Option (List Nat)), L.foldl tellSm s = addO s (L.foldl tellSm (some []))
  | [], s => by rw [List.foldl_nil, List.foldl_nil, addO_nil]
  | x :: L, s => by
    rw [List.foldl_cons, List.foldl_cons, foldSm_addO L (tellSm s x), foldSm_addO L (tellSm (some []) x), tellSm_addO s x, addO_assoc]
theorem tell_addO (s : Option (List Nat)) (p : Pk) : tellN s p = addO s (tellN (some []) p) := by
  unfold tellN tell1 tell2 tell3 tell4 tell0
  split
  · simp only [addO_assoc, nil_addO]
  · split
    · simp only [addO_assoc, nil_addO]
    · split
      · rw [foldSm_addO _ (addO (addO (addO s _) _) _), foldSm_addO _ (addO (addO (addO (some []) _) _) _)]
        simp only [addO_assoc, nil_addO]
      · split
        · simp only [addO_assoc, nil_addO]
        · simp only [nil_addO]
theorem u64_nat {z : Int} (h : 0 ≤ z) (h2 : z < 18446744073709551616) : z.toNat = u64N z := by unfold u64N; omega
theorem u8_wide {z : Int} (h : 0 ≤ z) (h2 : z < 256) : wideN z.toNat 1 = [u8N z] := by
  unfold u8N
  simp [wideN]
  omega
theorem putN1 {v : Int} (h : 0 ≤ v ∧ v < 256) : putN v 1 = some [u8N v] := by
  rw [putN_of ⟨by omega, by omega⟩ ⟨h.1, by show v < 256; exact h.2⟩]
  exact congrArg some (u8_wide h.1 h.2)
theorem putN2 {v : Int} (h : 0 ≤ v ∧ v < 65536) : putN v 2 = some (wideN (u64N v) 2) := by
  rw [putN_of ⟨by omega, by omega⟩ ⟨h.1, by show v < 65536; exact h.2⟩, u64_nat h.1 (by omega)]
  rfl
theorem putN4 {v : Int} (h : 0 ≤ v ∧ v < 4294967296) : putN v 4 = some (wideN (u64N v) 4) := by
  rw [putN_of ⟨by omega, by omega⟩ ⟨h.1, by show v < 4294967296; exact h.2⟩, u64_nat h.1 (by omega)]
  rfl
theorem putN2n {v : Nat} (h : v < 65536) : putN (v : Int) 2 = some (wideN v 2) := by rw [putN2 ⟨by omega, by omega⟩, u64N_nat _ (by omega)]
theorem putN4n {v : Nat} (h : v < 4294967296) : putN (v : Int) 4 = some (wideN v 4) := by rw [putN4 ⟨by omega, by omega⟩, u64N_nat _ (by omega)]
theorem tellSm_of {x : Sm} (hx : SmOk x) (h : 0 ≤ x.n ∧ x.n < 65536) (l : List Nat) : tellSm (some l) x = some (l ++ sumN x) := by
  unfold tellSm sumN
  rw [putN2 h, putN4n hx.2.1, addO_of, addO_of, addO_of]
  simp only [List.append_assoc]
theorem foldSm_of : ∀ (L : List Sm) (l : List Nat), (∀ x ∈ L, SmOk x ∧ 0 ≤ x.n ∧ x.n < 65536) → L.foldl tellSm (some l) = some (l ++ (L.map sumN).flatten)
  | [], l, _ => by simp
  | x :: L, l, h => by
    have hx := h x (by simp)
    rw [List.foldl_cons, tellSm_of hx.1 hx.2, foldSm_of L _ fun y hy => h y (by simp [hy])]
    simp [List.append_assoc]
theorem foldSm_get : ∀ (L : List Sm) (s : Option (List Nat)) (l : List Nat), L.foldl tellSm s = some l → ∀ x ∈ L, 0 ≤ x.n ∧ x.n < 65536
  | [], s, l, _, x, hx => by cases hx
  | y :: L, s, l, h, x, hx => by
    rw [List.foldl_cons, foldSm_addO] at h
    obtain ⟨a, b, h1, h2, _⟩ := addO_parts h
    rcases List.mem_cons.1 hx with rfl | hx
    · unfold tellSm at h1
      obtain ⟨c, _, h3, _, _⟩ := addO_parts h1
      obtain ⟨d, _, h4, _, _⟩ := addO_parts h3
      obtain ⟨_, e, _, h5, _⟩ := addO_parts h4
      have := putN_get h5
      exact ⟨this.1, this.2.1⟩
    · exact foldSm_get L _ b h2 x hx
/-- A formed packet is told. -/
theorem tell_ok {p : Pk} (hi : PkIn p) (ho : pkOk p) : plainP p ∧ tellN (some []) p = some (kbN p.kind (pkBody p)) := by
  have hk := kind_of ho
  have h0 : tell0 (some []) p = some [u8N p.kind] := by
    unfold tell0
    rw [putN1 ⟨by omega, by omega⟩, addO_of]
    rfl
  unfold tellN kbN pkBody
  rw [h0]
  rcases ho with o | o | o | o
  · obtain ⟨k, x1, x2, x3, x4, x5, x6, x7, x8⟩ := o
    refine ⟨.inl ⟨k, rfl, rfl, rfl, x4, x5, x6, x7, x8⟩, ?_⟩
    rw [if_pos k, if_pos k]
    unfold tell1 mainN
    rw [putN2 x1, putN1 x2, putN2 x3, addO_of, addO_of, addO_of]
    simp only [List.append_assoc]
  · obtain ⟨k, ⟨z1, z2, z3⟩, x4, x5, x6, x7, x8, x9, xa⟩ := o
    refine ⟨.inr (.inl ⟨k, z1, z2, z3, rfl, rfl, x8, x9, xa⟩), ?_⟩
    rw [if_neg (by omega), if_pos k, if_neg (by omega), if_pos k]
    unfold tell2 fileN
    have e : putT p.file.name = some (p.file.name.length :: p.file.name) := by unfold putT; rw [if_pos (by omega)]
    rw [e, putN1 x4, putN4 x6, putN2 x7, addO_of, addO_of, addO_of, addO_of, addO_of]
    have h2 := u8N_nat p.file.name.length x5
    rw [h2]
    simp
  · obtain ⟨k, ⟨z1, z2, z3⟩, x4, ⟨x5, x6⟩, x7, x8, x9⟩ := o
    refine ⟨.inr (.inr (.inl ⟨k, z1, z2, z3, rfl, x4, rfl, x5, x6⟩)), ?_⟩
    rw [if_neg (by omega), if_neg (by omega), if_pos k, if_neg (by omega), if_neg (by omega), if_pos k]
    unfold tell3 sumsN
    rw [putN1 x7, putN2n x8, addO_of, addO_of, foldSm_of _ _ fun x hx => ⟨hi.sums x hx, x9 x hx⟩]
    simp
  · obtain ⟨k, ⟨z1, z2, z3⟩, x4, x5, x6, x7, x8⟩ := o
    refine ⟨.inr (.inr (.inr ⟨k, ⟨x7, x8⟩, z1, z2, z3, x5, x4, x6, rfl, rfl⟩)), ?_⟩
    rw [if_neg (by omega), if_neg (by omega), if_neg (by omega), if_pos k, if_neg (by omega), if_neg (by omega), if_neg (by omega)]
    unfold tell4 symbolN
    rw [putN4n hi.id, addO_of, addO_of]
    simp
/-- What is told plainly is formed. -/
theorem tell_get {p : Pk} (hi : PkIn p) (hp : plainP p) {l : List Nat} (h : tellN (some []) p = some l) : pkOk p := by
  unfold tellN at h
  rcases hp with ⟨k, b⟩ | ⟨k, b⟩ | ⟨k, b⟩ | ⟨k, hd, b⟩
  · obtain ⟨-, -, -, b4, b5, b6, b7, b8⟩ := b
    rw [if_pos k] at h
    unfold tell1 at h
    obtain ⟨_, _, h1, h2, _⟩ := addO_parts h
    obtain ⟨_, _, h3, h4, _⟩ := addO_parts h1
    obtain ⟨_, _, _, h6, _⟩ := addO_parts h3
    have g2 := putN_get h2
    have g4 := putN_get h4
    have g6 := putN_get h6
    exact .inl ⟨k, ⟨g6.1, g6.2.1⟩, ⟨g4.1, g4.2.1⟩, ⟨g2.1, g2.2.1⟩, b4, b5, b6, b7, b8⟩
  · obtain ⟨b1, b2, b3, -, -, b6, b7, b8⟩ := b
    rw [if_neg (by omega), if_pos k] at h
    unfold tell2 at h
    obtain ⟨_, _, h1, h2, _⟩ := addO_parts h
    obtain ⟨_, _, h3, h4, _⟩ := addO_parts h1
    obtain ⟨_, _, h5, h6, _⟩ := addO_parts h3
    obtain ⟨_, _, h7, h8, _⟩ := addO_parts h5
    obtain ⟨_, _, _, h10, _⟩ := addO_parts h7
    have g2 := putN_get h2
    have g6 := putN_get h6
    have g10 := putN_get h10
    have g8 : p.file.name.length ≤ 255 := by
      unfold putT at h8
      split at h8
      · assumption
      · cases h8
    exact .inr (.inl ⟨k, ⟨b1, b2, b3⟩, ⟨g10.1, g10.2.1⟩, by omega, ⟨g6.1, g6.2.1⟩, ⟨g2.1, g2.2.1⟩, b6, b7, b8⟩)
  · obtain ⟨b1, b2, b3, -, b5, -, b7, b8⟩ := b
    rw [if_neg (by omega), if_neg (by omega), if_pos k] at h
    unfold tell3 at h
    have hx := foldSm_get _ _ _ h
    rw [foldSm_addO] at h
    obtain ⟨_, _, h1, _, _⟩ := addO_parts h
    obtain ⟨_, _, h3, h4, _⟩ := addO_parts h1
    obtain ⟨_, _, _, h6, _⟩ := addO_parts h3
    have g4 := putN_get h4
    have g6 := putN_get h6
    have : (p.sums.length : Int) < 65536 := g4.2.1
    exact .inr (.inr (.inl ⟨k, ⟨b1, b2, b3⟩, b5, ⟨b7, b8⟩, ⟨g6.1, g6.2.1⟩, by omega, hx⟩))
  · obtain ⟨b1, b2, b3, b4, b5, b6, -, -⟩ := b
    exact .inr (.inr (.inr ⟨k, ⟨b1, b2, b3⟩, b5, b4, b6, hd.1, hd.2⟩))
theorem tell_len {p : Pk} (hi : PkIn p) (ho : pkOk p) : (kbN p.kind (pkBody p)).length ≤ tellQ p := by
  unfold tellQ
  rw [kb_len]
  unfold pkBody
  rcases ho with o | o | o | o
  · rw [if_pos o.1]
    unfold mainN
    simp only [List.length_append, wideN_len, List.length_cons, List.length_nil]
    omega
  · rw [if_neg (by rw [o.1]; decide), if_pos o.1]
    unfold fileN
    simp only [List.length_append, wideN_len, hi.file.dgl, List.length_cons, List.length_nil]
    omega
  · rw [if_neg (by rw [o.1]; decide), if_neg (by rw [o.1]; decide), if_pos o.1]
    unfold sumsN
    rw [List.length_append, List.length_append, wideN_len, sums_len hi.sums]
    simp only [List.length_cons, List.length_nil]
    omega
  · rw [if_neg (by rw [o.1]; decide), if_neg (by rw [o.1]; decide), if_neg (by rw [o.1]; decide)]
    unfold symbolN
    rw [List.length_append, wideN_len]
    omega

/-! An Out in memory that is told a packet. -/

theorem PkAt.frame2 {w w' : World} {p : Pk} {sa : Option Addr} {sc : Nat} {da : Option Addr} {dc : Nat} {X : Nat → Prop} (h : PkAt w p sa sc da dc) (k : Fr X w w') (h1 : p.sums ≠ [] → ∀ q, sa = some q → ¬ X q.block) (h2 : p.data ≠ [] → ∀ q, da = some q → ¬ X q.block) : PkAt w' p sa sc da dc := by
  refine ⟨h.okk, ⟨h.sums.rng, h.sums.len, h.sums.most, ?_⟩, h.data.of_block fun q hq hl => k.block _ (h.data.blk q hq hl) (h2 hl q hq)⟩
  by_cases e0 : p.sums = []
  · exact .inl e0
  · rcases h.sums.here with e | ⟨b, off, e, hb, hc⟩
    · exact .inl e
    · refine .inr ⟨b, off, e, Nat.lt_of_lt_of_le hb k.size, fun i hi => ?_⟩
      have hbk : w'.heap[b]? = w.heap[b]? := k.block b hb (h1 e0 _ e)
      obtain ⟨c1, c2, c3⟩ := hc i hi
      exact ⟨(World.cell?_of_block (a := ⟨b, _, none⟩) hbk).trans c1, (World.cell?_of_block (a := ⟨b, _, none⟩) hbk).trans c2, fun j hj => (World.cell?_of_block (a := ⟨b, _, none⟩) hbk).trans (c3 j hj)⟩
/-- Behind w: the packet's box B, the Out b in blocks that X0 names or newer ones; blocks of Y are none of it. -/
structure TeSt (X0 Y : Nat → Prop) (w : World) (b B : Nat) (p : Pk) (sa : Option Addr) (sc : Nat) (da : Option Addr) (dc : Nat) (s : Option (List Nat)) (q : Nat) (wr : World) : Prop where
  out : ∃ X, OutAt X wr b s q ∧ ¬ X B ∧ (∀ k, X k → X0 k ∨ B < k) ∧ ∀ k, Y k → ¬ X k ∧ k < wr.heap.size
  bx : w.heap.size ≤ B
  row : Row wr B 100 51 51 (pkV p sa sc da dc)
  fr : Fr X0 w wr
  pk : PkAt wr p sa sc da dc
  sx : p.sums ≠ [] → ∀ q, sa = some q → ¬ X0 q.block ∧ q.block < B
  dx : p.data ≠ [] → ∀ q, da = some q → ¬ X0 q.block ∧ q.block < B
theorem TeSt.put {X0 Y : Nat → Prop} {w : World} {b B : Nat} {p : Pk} {sa : Option Addr} {sc : Nat} {da : Option Addr} {dc : Nat} {s s' : Option (List Nat)} {q q' : Nat} {wr : World} (h : TeSt X0 Y w b B p sa sc da dc s q wr) {f : FuncId} {args : Array Value}
    (hc : ∀ X, OutAt X wr b s q → Calls Tryz.prog f args wr (OutPost OutAt X wr b s' q')) :
    Calls Tryz.prog f args wr fun e w' => e = .returned (.tuple #[]) ∧ TeSt X0 Y w b B p sa sc da dc s' q' w' ∧ ∀ k, Y k → w'.heap[k]? = wr.heap[k]? := by
  obtain ⟨X, h1, h2, h3, h4⟩ := h.out
  refine (hc X h1).mono ?_
  rintro e w' ⟨rfl, X', o, hx, fr⟩
  have hB := h.row.lt
  refine ⟨rfl, ⟨⟨X', o, fun hX => ?_, fun k hk => ?_, fun k hk => ⟨fun hX => ?_, Nat.lt_of_lt_of_le (h4 k hk).2 fr.size⟩⟩, h.bx, h.row.fr fr h2, h.fr.over fr fun j hj => ?_, h.pk.frame2 fr (fun e r hr hX => ?_) (fun e r hr hX => ?_), h.sx, h.dx⟩, fun k hk => fr.block k (h4 k hk).2 (h4 k hk).1⟩
  · rcases hx B hX with hX | hX
    · exact h2 hX
    · omega
  · rcases hx k hk with hk | hk
    · exact h3 k hk
    · exact .inr (by omega)
  · rcases hx k hX with hX | hX
    · exact (h4 k hk).1 hX
    · have := (h4 k hk).2
      omega
  · rcases h3 j hj with h5 | h5
    · exact .inl h5
    · have := h.bx
      exact .inr (by omega)
  · have := h.sx e r hr
    rcases h3 _ hX with h5 | h5
    · exact this.1 h5
    · omega
  · have := h.dx e r hr
    rcases h3 _ hX with h5 | h5
    · exact this.1 h5
    · omega
/-- A box more. -/
theorem TeSt.box {X0 Y : Nat → Prop} {w : World} {b B : Nat} {p : Pk} {sa : Option Addr} {sc : Nat} {da : Option Addr} {dc : Nat} {s : Option (List Nat)} {q : Nat} {wr w' : World} (h : TeSt X0 Y w b B p sa sc da dc s q wr) (k : Below wr.heap.size wr w') (hk : wr.heap.size < w'.heap.size) : TeSt X0 (fun j => j = wr.heap.size) w b B p sa sc da dc s q w' := by
  obtain ⟨X, h1, h2, h3, h4⟩ := h.out
  have hlt := h1.2.1
  refine ⟨⟨X, h1.keep (Fr.of_below (X := fun _ => False) k) (fun _ _ h => h), h2, h3, fun j hj => ⟨fun hX => ?_, ?_⟩⟩, h.bx, h.row.fr (X := fun _ => False) (Fr.of_below k) (fun h => h), h.fr.later k, h.pk.below k, h.sx, h.dx⟩
  · subst hj
    have := hlt _ hX
    omega
  · subst hj
    exact hk
theorem TeSt.weak {X0 Y : Nat → Prop} {w : World} {b B : Nat} {p : Pk} {sa : Option Addr} {sc : Nat} {da : Option Addr} {dc : Nat} {s : Option (List Nat)} {q q' : Nat} {wr : World} (h : TeSt X0 Y w b B p sa sc da dc s q wr) (hq : q ≤ q') : TeSt X0 (fun _ => False) w b B p sa sc da dc s q' wr := by
  obtain ⟨X, h1, h2, h3, h4⟩ := h.out
  exact ⟨⟨X, h1.mono hq, h2, h3, fun k hk => hk.elim⟩, h.bx, h.row, h.fr, h.pk, h.sx, h.dx⟩
theorem TeSt.fin {X0 Y : Nat → Prop} {w : World} {b B : Nat} {p : Pk} {sa : Option Addr} {sc : Nat} {da : Option Addr} {dc : Nat} {s s' : Option (List Nat)} {q q' : Nat} {wr : World} (h : TeSt X0 Y w b B p sa sc da dc s q wr) (hs : s = s') (hq : q ≤ q') : OutPost OutAt X0 w b s' q' (.returned (.tuple #[])) wr := by
  subst hs
  obtain ⟨X, h1, h2, h3, h4⟩ := h.out
  refine ⟨rfl, X, h1.mono hq, fun k hk => ?_, h.fr⟩
  rcases h3 k hk with h5 | h5
  · exact .inl h5
  · have := h.bx
    exact .inr (by omega)
end Go.Proofs.YtfgaohilpbocbaaGreatDoor
end

section
namespace Go.Proofs.YtfgaohilpbocbaaGreatDoor
open Go.ChangeShapes Go.WideShapes Go.ChangeAt Go.RowKit Go.Joins
set_option linter.unusedVariables false

theorem pk_dg {w : World} {B : Nat} {p : Pk} {sa : Option Addr} {sc : Nat} {da : Option Addr} {dc : Nat} (h : Row w B 100 51 51 (pkV p sa sc da dc)) (hf : FilOk p.file) : Sl w (some ⟨B, 15, none⟩) 32 p.file.dg := by
  refine ⟨hf.dgb, by rw [hf.dgl]; exact Nat.le_refl _, by unfold maxLen; omega, fun e => (by cases e), .inr ⟨B, 15, rfl, fun i hi => ?_⟩⟩
  have hi2 := hi
  rw [hf.dgl] at hi2
  rw [h.cell (15 + i) (by omega), pkV_fil _ _ _ _ _ (by omega) (by omega)]
  unfold filV
  rw [if_neg (by omega), if_neg (by omega), if_pos (by omega), show 15 + i - 13 - 2 = i by omega, vOf_eq _ _ hi]
theorem pk_st {w : World} {B : Nat} {p : Pk} {sa : Option Addr} {sc : Nat} {da : Option Addr} {dc : Nat} (h : Row w B 100 51 51 (pkV p sa sc da dc)) (hi : PkIn p) : Sl w (some ⟨B, 0, none⟩) 8 p.set := by
  refine ⟨hi.setb, by rw [hi.set8]; exact Nat.le_refl _, by unfold maxLen; omega, fun e => (by cases e), .inr ⟨B, 0, rfl, fun i h8 => ?_⟩⟩
  have hi2 := h8
  rw [hi.set8] at hi2
  rw [h.cell (0 + i) (by omega), pkV_set _ _ _ _ _ (by omega), Nat.zero_add, vOf_eq _ _ h8]
theorem sm_dg {w : World} {g : Nat} {x : Sm} (h : Row w g 52 34 34 (smV x)) (hx : SmOk x) : Sl w (some ⟨g, 2, none⟩) 32 x.dg := by
  refine ⟨hx.2.2.2, by rw [hx.2.2.1]; exact Nat.le_refl _, by unfold maxLen; omega, fun e => (by cases e), .inr ⟨g, 2, rfl, fun i hi => ?_⟩⟩
  have hi2 := hi
  rw [hx.2.2.1] at hi2
  rw [h.cell (2 + i) (by omega)]
  unfold smV
  rw [if_neg (by omega), if_neg (by omega), show 2 + i - 2 = i by omega, vOf_eq _ _ hi]
theorem oneCell_sm (x : Sm) : (rowArr 34 (smV x)).all (·.oneCell') = true := by
  simp only [rowArr, List.all_toArray, List.all_map, List.all_eq_true]
  intro j _
  simp only [Function.comp]
  unfold smV
  (repeat' split) <;> rfl
theorem fold_next {L : List Sm} {k : Nat} (h : k < L.length) (s : Option (List Nat)) : (L.take (k + 1)).foldl tellSm s = tellSm ((L.take k).foldl tellSm s) L[k] := by
  rw [List.take_succ_eq_append_getElem h, List.foldl_append]
  rfl

set_option maxRecDepth 1000000 in
set_option maxHeartbeats 8000000 in
theorem tell_any (X0 : Nat → Prop) (w : World) (b : Nat) (s : Option (List Nat)) (q : Nat) (p : Pk) (sa : Option Addr) (sc : Nat) (da : Option Addr) (dc : Nat) (ho : OutAt X0 w b s q) (hp : PkAt w p sa sc da dc)
    (hsx : p.sums ≠ [] → ∀ r, sa = some r → ¬ X0 r.block) (hdx : p.data ≠ [] → ∀ r, da = some r → ¬ X0 r.block) (hq : q + tellQ p ≤ 40000) (hnm : p.file.name.length ≤ 20000) (hdt : p.data.length ≤ 20000) :
    Calls Tryz.prog 138 #[.pointer (some ⟨b, 0, none⟩), .agg (rowArr 51 (pkV p sa sc da dc))] w (OutPost OutAt X0 w b (tellN s p) (q + tellQ p)) := by
  have mixed : Tryz.prog.follows .mixedOrders = true := by kernel_rfl
  have hHP : Row (w.alloc (.cells (rowArr 51 (pkV p sa sc da dc)) 100)) w.heap.size 100 51 51 (pkV p sa sc da dc) := Row.of_whole (heap_alloc_last w _)
  have hHB : Below w.heap.size w (w.alloc (.cells (rowArr 51 (pkV p sa sc da dc)) 100)) := (Below.refl _ _).alloc (Nat.le_refl _) _
  have hXB : ∀ j, X0 j → j < w.heap.size := ho.2.1
  have H0 : Hid (TeSt X0 (fun _ => False) w b w.heap.size p sa sc da dc s q (w.alloc (.cells (rowArr 51 (pkV p sa sc da dc)) 100))) :=
    ⟨⟨X0, ho.keep (Fr.of_below (X := fun _ => False) hHB) (fun _ _ h => h), fun h => by have := hXB _ h; omega, fun k hk => .inl hk, fun k hk => hk.elim⟩, Nat.le_refl _, hHP, Fr.of_below hHB, hp.below hHB, fun e r hr => ⟨hsx e r hr, by
      rcases hp.sums.here with h | ⟨b', off, h, h2, _⟩
      · exact absurd h e
      · rw [h] at hr; cases hr; exact h2⟩, fun e r hr => ⟨hdx e r hr, hp.data.blk r hr e⟩⟩
  obtain ⟨arr, harr⟩ : ∃ arr, arr = rowArr 51 (pkV p sa sc da dc) := ⟨_, rfl⟩
  rw [← harr] at H0 ⊢
  have HPI := Lib.hid hp.okk
  have hsl := hp.sums.lt
  have hdl := hp.data.lt
  have HTQ : Hid (tellQ p = 100 + p.file.name.length + 44 * p.sums.length + p.data.length) := rfl
  have hTQ := HTQ.out
  obtain ⟨nl, hnl⟩ : ∃ nl, nl = p.file.name.length := ⟨_, rfl⟩
  rw [← hnl] at hTQ hnm
  have HNL := Lib.hid hnl
  obtain ⟨TQ, hTQ2⟩ : ∃ TQ, TQ = tellQ p := ⟨_, rfl⟩
  rw [← hTQ2] at hTQ hq ⊢
  clear hTQ2 HTQ hnl ho hp hsx hdx hHP hHB hXB harr
  go_enter Tryz.func138, Tryz.ntmps138
  go_upto_region 1 with fail
  obtain ⟨B, hB⟩ : ∃ B, B = w.heap.size := ⟨_, rfl⟩
  rw [← hB] at H0 ⊢
  generalize w.alloc (.cells arr 100) = w1 at *
  clear hB
  have c8 : w1.cell? ⟨B, 8, none⟩ = some (.int .i64 p.kind) := H0.out.row.cell 8 (by omega)
  have HN := Lib.hid (H0.out.put (s' := tell0 s p) (q' := q + 6) fun X hX => outN_any X w1 b _ _ p.kind 1 hX (by omega) HPI.out.kind ⟨by omega, by omega⟩)
  go_wp2_with fail
  (with_reducible refine HN.out.mono ?_)
  rintro e v1 ⟨rfl, ht, _⟩
  have T1 := Lib.hid ht
  clear ht HN H0 c8
  have c8 : v1.cell? ⟨B, 8, none⟩ = some (.int .i64 p.kind) := T1.out.row.cell 8 (by omega)
  obtain ⟨s0, hs0⟩ : ∃ s0, s0 = tell0 s p := ⟨_, rfl⟩
  have HS0 := Lib.hid hs0
  rw [← hs0] at T1
  clear hs0
  obtain ⟨kd, hkd⟩ : ∃ kd, kd = p.kind := ⟨_, rfl⟩
  have HKD := Lib.hid hkd
  rw [← hkd] at c8
  clear hkd
  by_cases k1 : kd = 1
  · subst k1
    have HTE : Hid (tellN s p = tell1 s0 p) := by show _ = _; unfold tellN; rw [if_pos HKD.out.symm, HS0.out]
    have HF := HTE
    clear HTE HS0 HKD
    have c9 : v1.cell? ⟨B, 9, none⟩ = some (.int .i64 p.slice) := T1.out.row.cell 9 (by omega)
    have HN := Lib.hid (T1.out.put (s' := addO s0 (putN p.slice 2)) (q' := q + 6 + 6) fun X hX => outN_any X v1 b _ _ p.slice 2 hX (by omega) HPI.out.slice ⟨by omega, by omega⟩)
    go_wp2_with fail
    (with_reducible refine HN.out.mono ?_)
    rintro e v2 ⟨rfl, ht, _⟩
    have T2 := Lib.hid ht
    clear ht HN T1 c9
    have c10 : v2.cell? ⟨B, 10, none⟩ = some (.int .i64 p.files) := T2.out.row.cell 10 (by omega)
    have HN := Lib.hid (T2.out.put (s' := addO (addO s0 (putN p.slice 2)) (putN p.files 1)) (q' := q + 6 + 6 + 6) fun X hX => outN_any X v2 b _ _ p.files 1 hX (by omega) HPI.out.files ⟨by omega, by omega⟩)
    go_wp2_with fail
    (with_reducible refine HN.out.mono ?_)
    rintro e v3 ⟨rfl, ht, _⟩
    have T3 := Lib.hid ht
    clear ht HN T2 c10
    have c11 : v3.cell? ⟨B, 11, none⟩ = some (.int .i64 p.slices) := T3.out.row.cell 11 (by omega)
    have HN := Lib.hid (T3.out.put (s' := addO (addO (addO s0 (putN p.slice 2)) (putN p.files 1)) (putN p.slices 2)) (q' := q + 6 + 6 + 6 + 6) fun X hX => outN_any X v3 b _ _ p.slices 2 hX (by omega) HPI.out.slices ⟨by omega, by omega⟩)
    go_wp2_with fail
    (with_reducible refine HN.out.mono ?_)
    rintro e v4 ⟨rfl, ht, _⟩
    have T4 := Lib.hid ht
    clear ht HN T3 c11
    go_wp2_with fail
    go_end0
    exact T4.out.fin HF.out.symm (by omega)
  by_cases k2 : kd = 2
  · subst k2
    have HTE : Hid (tellN s p = tell2 s0 p) := by show _ = _; unfold tellN; rw [if_neg (by rw [← HKD.out]; decide), if_pos HKD.out.symm, HS0.out]
    have HF := HTE
    clear HTE HS0 HKD
    have c12 : v1.cell? ⟨B, 12, none⟩ = some (.int .i64 p.index) := T1.out.row.cell 12 (by omega)
    have HN := Lib.hid (T1.out.put (s' := addO s0 (putN p.index 1)) (q' := q + 6 + 6) fun X hX => outN_any X v1 b _ _ p.index 1 hX (by omega) HPI.out.index ⟨by omega, by omega⟩)
    go_wp2_with fail
    (with_reducible refine HN.out.mono ?_)
    rintro e v5 ⟨rfl, ht, _⟩
    have T5 := Lib.hid ht
    clear ht HN T1 c12
    have hst := strOf_size p.file.name
    rw [← HNL.out] at hst
    have c13 : v5.cell? ⟨B, 13, none⟩ = some (.string (strOf p.file.name)) := T5.out.row.cell 13 (by omega)
    have HN := Lib.hid (T5.out.put (s' := addO (addO s0 (putN p.index 1)) (putT p.file.name)) (q' := q + 6 + 6 + nl + 6) fun X hX => by rw [HNL.out]; exact outT_any X v5 b _ _ p.file.name hX (by omega) HPI.out.file.byte (by have := HNL.out; omega))
    go_wp2_with fail
    (with_reducible refine HN.out.mono ?_)
    rintro e v6 ⟨rfl, ht, _⟩
    have T6 := Lib.hid ht
    clear ht HN T5 c13
    have c14 : v6.cell? ⟨B, 14, none⟩ = some (.int .i64 p.file.size) := T6.out.row.cell 14 (by omega)
    have HN := Lib.hid (T6.out.put (s' := addO (addO (addO s0 (putN p.index 1)) (putT p.file.name)) (putN p.file.size 4)) (q' := q + 6 + 6 + (nl + 6) + 6) fun X hX => outN_any X v6 b _ _ p.file.size 4 hX (by omega) HPI.out.file.size ⟨by omega, by omega⟩)
    go_wp2_with fail
    (with_reducible refine HN.out.mono ?_)
    rintro e v7 ⟨rfl, ht, _⟩
    have T7 := Lib.hid ht
    clear ht HN T6 c14
    have HDL := Lib.hid HPI.out.file.dgl
    have HN := Lib.hid (T7.out.put (s' := addO (addO (addO (addO s0 (putN p.index 1)) (putT p.file.name)) (putN p.file.size 4)) (some p.file.dg)) (q' := q + 6 + 6 + (nl + 6) + 6 + 32) fun X hX => by have h := outR_any X v7 b _ _ (some ⟨B, 15, none⟩) 32 p.file.dg hX (by omega) (pk_dg T7.out.row HPI.out.file) (by rw [HDL.out]; omega); rw [HDL.out] at h; exact h)
    go_wp2_with fail
    (with_reducible refine HN.out.mono ?_)
    rintro e v8 ⟨rfl, ht, _⟩
    have T8 := Lib.hid ht
    clear ht HN T7
    have c47 : v8.cell? ⟨B, 47, none⟩ = some (.int .i64 p.file.first) := T8.out.row.cell 47 (by omega)
    have HN := Lib.hid (T8.out.put (s' := addO (addO (addO (addO (addO s0 (putN p.index 1)) (putT p.file.name)) (putN p.file.size 4)) (some p.file.dg)) (putN p.file.first 2)) (q' := q + 6 + 6 + (nl + 6) + 6 + 32 + 6) fun X hX => outN_any X v8 b _ _ p.file.first 2 hX (by omega) HPI.out.file.first ⟨by omega, by omega⟩)
    go_wp2_with fail
    (with_reducible refine HN.out.mono ?_)
    rintro e v9 ⟨rfl, ht, _⟩
    have T9 := Lib.hid ht
    clear ht HN T8 c47
    go_wp2_with fail
    go_end0
    exact T9.out.fin HF.out.symm (by omega)
  by_cases k3 : kd = 3
  · subst k3
    have HTE : Hid (tellN s p = tell3 s0 p) := by show _ = _; unfold tellN; rw [if_neg (by rw [← HKD.out]; decide), if_neg (by rw [← HKD.out]; decide), if_pos HKD.out.symm, HS0.out]
    have HF := HTE
    clear HTE HS0 HKD
    have c12 : v1.cell? ⟨B, 12, none⟩ = some (.int .i64 p.index) := T1.out.row.cell 12 (by omega)
    have HN := Lib.hid (T1.out.put (s' := addO s0 (putN p.index 1)) (q' := q + 6 + 6) fun X hX => outN_any X v1 b _ _ p.index 1 hX (by omega) HPI.out.index ⟨by omega, by omega⟩)
    go_wp2_with fail
    (with_reducible refine HN.out.mono ?_)
    rintro e v10 ⟨rfl, ht, _⟩
    have T10 := Lib.hid ht
    clear ht HN T1 c12
    have c48 : v10.cell? ⟨B, 48, none⟩ = some (.slice sa p.sums.length sc) := T10.out.row.cell 48 (by omega)
    have HN := Lib.hid (T10.out.put (s' := addO (addO s0 (putN p.index 1)) (putN (p.sums.length : Int) 2)) (q' := q + 6 + 6 + 6) fun X hX => outN_any X v10 b _ _ (p.sums.length : Int) 2 hX (by omega) ⟨by omega, by omega⟩ ⟨by omega, by omega⟩)
    go_wp2_with fail
    (with_reducible refine HN.out.mono ?_)
    rintro e v11 ⟨rfl, ht, _⟩
    have T11 := Lib.hid ht
    clear ht HN T10 c48
    have c48 : v11.cell? ⟨B, 48, none⟩ = some (.slice sa p.sums.length sc) := T11.out.row.cell 48 (by omega)
    have hl1 := T11.out.pk.sums.len
    have hcm : sc ≤ 9223372036854775807 := by have := T11.out.pk.sums.most; unfold maxLen at this; omega
    obtain ⟨S3, hS3⟩ : ∃ S3, S3 = addO (addO s0 (putN p.index 1)) (putN (p.sums.length : Int) 2) := ⟨_, rfl⟩
    rw [← hS3] at T11
    have HF3 : Hid (tellN s p = p.sums.foldl tellSm S3) := by show _ = _; rw [HF.out, hS3]; rfl
    have HL0 : Hid (TeSt X0 (fun _ => False) w b B p sa sc da dc ((p.sums.take 0).foldl tellSm S3) (q + 6 + 6 + 6 + 44 * 0) v11) := T11.out.weak (by omega)
    clear hS3 T11 HF
    go_wp2_with fail
    clear c48
    go_loopw [66] (fun j wr => ∃ k : Nat, k ≤ p.sums.length ∧ j = .int .i64 (k : Int) ∧ Hid (TeSt X0 (fun _ => False) w b B p sa sc da dc ((p.sums.take k).foldl tellSm S3) (q + 6 + 6 + 6 + 44 * k) wr)) (fun j _ => p.sums.length - (intOf j).toNat)
    case atStart => exact ⟨0, by omega, rfl, HL0⟩
    case round =>
      obtain ⟨k, hk, rfl, HA⟩ := hrel
      clear HL0
      by_cases hlt : k < p.sums.length
      · have hkz : (k : Int) < (p.sums.length : Int) := by omega
        obtain ⟨sb, off, rfl, hbl, hx⟩ := sms_one HA.out.pk.sums hlt
        have hok := HA.out.pk.sums.rng _ (List.getElem_mem hlt)
        have HNX := Lib.hid (fold_next hlt S3)
        obtain ⟨x, hxx⟩ : ∃ x, x = p.sums[k] := ⟨_, rfl⟩
        rw [← hxx] at hx hok HNX
        have HXC := Lib.hid (smAt_cells hx hok)
        have HOK := Lib.hid hok
        obtain ⟨SX, hSX⟩ : ∃ SX, SX = rowArr 34 (smV x) := ⟨_, rfl⟩
        have VX : Hid (rowArr 34 (smV x) = SX) := hSX.symm
        have hSXs : SX.size = 34 := by rw [hSX, rowArr_size]
        have hSX1 : SX.all (·.oneCell') = true := by rw [hSX]; exact oneCell_sm x
        have HSXs := Lib.hid hSXs
        have HSX1 := Lib.hid hSX1
        have HALL : Hid (∀ c : Array Value, (wr.alloc (.cells c 52)).heap[wr.heap.size]? = some (.cells c 52 (0, 0))) := fun c => heap_alloc_last wr _
        have HALB : Hid (∀ c : Array Value, Below wr.heap.size wr (wr.alloc (.cells c 52))) := fun c => (Below.refl _ _).alloc (Nat.le_refl _) _
        have HALS : Hid (∀ c : Array Value, wr.heap.size < (wr.alloc (.cells c 52)).heap.size) := fun c => (Array.getElem?_eq_some_iff.1 (heap_alloc_last wr (.cells c 52))).1
        clear hx hok hxx hSX hSXs hSX1
        go_upto_region 19 with (first
          | (refine wpList_load_v (by rfl) 52 _ rfl sb (off + k * 34) 34 _ SX VX.out rfl _ HXC.out und_sm rfl (by kernel_rfl) ?_)
          | (refine wpList_store_arr rfl 52 _ _ rfl wr.heap.size SX rfl rfl 52 _ (HALL.out _) (by rw [HSXs.out]; kernel_rfl) (by rw [HSXs.out]; rfl) HSX1.out ?_; intro w7 HC7 hf7; have HB67 : Hid (Below wr.heap.size wr w7) := (HALB.out _).trans (hf7.out.below (HALB.out _).size (fun k hk e => by omega)); have HSZ : Hid (wr.heap.size < w7.heap.size) := (Array.getElem?_eq_some_iff.1 HC7.out).1; clear hf7 HALL HALB HALS))
        have HT7 := Lib.hid (HA.out.box HB67.out HSZ.out)
        obtain ⟨g, hg⟩ : ∃ g, g = wr.heap.size := ⟨_, rfl⟩
        rw [← hg] at HT7 HC7
        rw [← hg]
        rw [← VX.out] at HC7
        have HX7 : Hid (Row w7 g 52 34 34 (smV x)) := Row.of_whole HC7.out
        clear HB67 HSZ HC7 HXC VX HSXs HSX1 HA hg
        obtain ⟨sk, hsk⟩ : ∃ sk, sk = (p.sums.take k).foldl tellSm S3 := ⟨_, rfl⟩
        rw [← hsk] at HT7 HNX
        clear hsk
        have c0 : w7.cell? ⟨g, 0, none⟩ = some (.int .i64 x.n) := HX7.out.cell 0 (by omega)
        have HN := Lib.hid (HT7.out.put (s' := addO sk (putN x.n 2)) (q' := q + 6 + 6 + 6 + 44 * k + 6) fun X hX => outN_any X w7 b _ _ x.n 2 hX (by omega) HOK.out.1 ⟨by omega, by omega⟩)
        go_wp2_with fail
        (with_reducible refine HN.out.mono ?_)
        rintro e v12 ⟨rfl, ht, hy⟩
        have T12 := Lib.hid ht
        have X12 : Hid (Row v12 g 52 34 34 (smV x)) := by
          obtain ⟨cs, r1, r2, r3⟩ := HX7.out
          exact ⟨cs, (hy g rfl).trans r1, r2, r3⟩
        clear ht hy HN HT7 HX7 c0
        have hcr : x.crc < 4294967296 := HOK.out.2.1
        have c1 : v12.cell? ⟨g, 1, none⟩ = some (.int .u32 (x.crc : Int)) := X12.out.cell 1 (by omega)
        have HN := Lib.hid (T12.out.put (s' := addO (addO sk (putN x.n 2)) (putN (x.crc : Int) 4)) (q' := q + 6 + 6 + 6 + 44 * k + 6 + 6) fun X hX => outN_any X v12 b _ _ (x.crc : Int) 4 hX (by omega) ⟨by omega, by omega⟩ ⟨by omega, by omega⟩)
        go_wp2_with fail
        (with_reducible refine HN.out.mono ?_)
        rintro e v13 ⟨rfl, ht, hy⟩
        have T13 := Lib.hid ht
        have X13 : Hid (Row v13 g 52 34 34 (smV x)) := by
          obtain ⟨cs, r1, r2, r3⟩ := X12.out
          exact ⟨cs, (hy g rfl).trans r1, r2, r3⟩
        clear ht hy HN T12 X12 c1
        have HN := Lib.hid (T13.out.put (s' := addO (addO (addO sk (putN x.n 2)) (putN (x.crc : Int) 4)) (some x.dg)) (q' := q + 6 + 6 + 6 + 44 * k + 6 + 6 + 32) fun X hX => by have h := outR_any X v13 b _ _ (some ⟨g, 2, none⟩) 32 x.dg hX (by omega) (sm_dg X13.out HOK.out) (by rw [HOK.out.2.2.1]; omega); rw [HOK.out.2.2.1] at h; exact h)
        go_wp2_with fail
        (with_reducible refine HN.out.mono ?_)
        rintro e v14 ⟨rfl, ht, hy⟩
        have T14 := Lib.hid ht
        have X14 : Hid (Row v14 g 52 34 34 (smV x)) := by
          obtain ⟨cs, r1, r2, r3⟩ := X13.out
          exact ⟨cs, (hy g rfl).trans r1, r2, r3⟩
        clear ht hy HN T13 X13
        have HLN : Hid (TeSt X0 (fun _ => False) w b B p (some ⟨sb, off, none⟩) sc da dc ((p.sums.take (k + 1)).foldl tellSm S3) (q + 6 + 6 + 6 + 44 * (k + 1)) v14) := by
          show TeSt _ _ _ _ _ _ _ _ _ _ _ _ _
          rw [HNX.out]
          exact T14.out.weak (by omega)
        clear T14 X14 HNX
        go_wp2_with fail
        go_roundw
        case rel => exact ⟨k + 1, by omega, by go_num, HLN⟩
        case measure => simp [intOf]; omega
      · obtain rfl : k = p.sums.length := by omega
        rw [List.take_length] at HA
        go_wp2_with fail
        go_end0
        exact HA.out.fin HF3.out.symm (by omega)
  by_cases k4 : kd = 4
  · subst k4
    have HTE : Hid (tellN s p = tell4 s0 p) := by show _ = _; unfold tellN; rw [if_neg (by rw [← HKD.out]; decide), if_neg (by rw [← HKD.out]; decide), if_neg (by rw [← HKD.out]; decide), if_pos HKD.out.symm, HS0.out]
    have HF := HTE
    clear HTE HS0 HKD
    have hid := HPI.out.id
    have c49 : v1.cell? ⟨B, 49, none⟩ = some (.int .u32 (p.id : Int)) := T1.out.row.cell 49 (by omega)
    have HN := Lib.hid (T1.out.put (s' := addO s0 (putN (p.id : Int) 4)) (q' := q + 6 + 6) fun X hX => outN_any X v1 b _ _ (p.id : Int) 4 hX (by omega) ⟨by omega, by omega⟩ ⟨by omega, by omega⟩)
    go_wp2_with fail
    (with_reducible refine HN.out.mono ?_)
    rintro e v15 ⟨rfl, ht, _⟩
    have T15 := Lib.hid ht
    clear ht HN T1 c49
    have c50 : v15.cell? ⟨B, 50, none⟩ = some (.slice da p.data.length dc) := T15.out.row.cell 50 (by omega)
    have HN := Lib.hid (T15.out.put (s' := addO (addO s0 (putN (p.id : Int) 4)) (some p.data)) (q' := q + 6 + 6 + p.data.length) fun X hX => outR_any X v15 b _ _ da dc p.data hX (by omega) T15.out.pk.data (by omega))
    go_wp2_with fail
    (with_reducible refine HN.out.mono ?_)
    rintro e v16 ⟨rfl, ht, _⟩
    have T16 := Lib.hid ht
    clear ht HN T15 c50
    go_wp2_with fail
    go_end0
    exact T16.out.fin HF.out.symm (by omega)
  have HF : Hid (tellN s p = s0) := by
    show _ = _
    unfold tellN
    rw [← HKD.out, if_neg k1, if_neg k2, if_neg k3, if_neg k4, HS0.out]
  have g1 : (kd == 1) = false := beq_eq_false_iff_ne.2 k1
  have g2 : (kd == 2) = false := beq_eq_false_iff_ne.2 k2
  have g3 : (kd == 3) = false := beq_eq_false_iff_ne.2 k3
  have g4 : (kd == 4) = false := beq_eq_false_iff_ne.2 k4
  clear k1 k2 k3 k4 HKD HS0
  go_wp2_with fail
  go_end0
  exact T1.out.fin HF.out.symm (by omega)
end Go.Proofs.YtfgaohilpbocbaaGreatDoor
end
