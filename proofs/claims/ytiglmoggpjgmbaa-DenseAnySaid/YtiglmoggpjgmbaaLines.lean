/-
  Package dense's lines and longest.
-/
import Derived.Test.YtiglmoggpjgmbaaStab
namespace Go.Proofs.Ytiglmoggpjgmbaa
open Go.ChangeShapes Go.WideShapes Go.ChangeAt Go.RowKit Go.Joins
set_option linter.unusedVariables false

/-! Lists of lines, each with what it is. -/
/-- Two permuted first halves lift. -/
theorem perm_lift {α β : Type} {xs ys : List α} (h : xs.Perm ys) : ∀ ps : List (α × β), ps.map (·.1) = ys → ∃ qs : List (α × β), qs.Perm ps ∧ qs.map (·.1) = xs := by
  induction h with
  | nil => intro ps hp; exact ⟨[], by rw [List.map_eq_nil_iff.1 hp], rfl⟩
  | cons x h ih =>
    intro ps hp
    match ps, hp with
    | (a, b) :: t, hp =>
      simp only [List.map_cons, List.cons.injEq] at hp
      obtain ⟨qs, h1, h2⟩ := ih t hp.2
      exact ⟨(a, b) :: qs, h1.cons _, by simp only [List.map_cons, h2, hp.1]⟩
  | swap x y l =>
    intro ps hp
    match ps, hp with
    | (a, b) :: (c, d) :: t, hp =>
      simp only [List.map_cons, List.cons.injEq] at hp
      exact ⟨(c, d) :: (a, b) :: t, List.Perm.swap _ _ _, by simp only [List.map_cons, hp.1, hp.2.1, hp.2.2]⟩
  | trans h1 h2 ih1 ih2 =>
    intro ps hp
    obtain ⟨qs, a1, a2⟩ := ih2 ps hp
    obtain ⟨rs, b1, b2⟩ := ih1 qs a2
    exact ⟨rs, b1.trans a1, b2⟩

/-- Lines that lie apart, in blocks from B on: what one writes in place is its own. -/
structure Lns (B : Nat) (w : World) (ps : List (LV × Ln)) : Prop where
  line : ∀ p ∈ ps, LineAt w p.1 p.2
  from' : ∀ p ∈ ps, B ≤ p.1.rb ∧ B ≤ p.1.gb
  rows : (ps.map fun p => p.1.rb).Nodup
  rights : ∀ p ∈ ps, ∀ q ∈ ps, p.1.gb ≠ q.1.rb
theorem Lns.nil (B : Nat) (w : World) : Lns B w [] := ⟨by simp, by simp, by simp, by simp⟩
theorem Lns.below {B : Nat} {w w' : World} {ps : List (LV × Ln)} (h : Lns B w ps) (k : Below w.heap.size w w') : Lns B w' ps := ⟨fun p hp => (h.line p hp).below k, h.from', h.rows, h.rights⟩
theorem Lns.lt {B : Nat} {w : World} {ps : List (LV × Ln)} (h : Lns B w ps) : ∀ p ∈ ps, p.1.rb < w.heap.size ∧ p.1.gb < w.heap.size := fun p hp => ⟨(h.line p hp).row.lt, (h.line p hp).right.lt⟩
theorem Lns.perm {B : Nat} {w : World} {ps qs : List (LV × Ln)} (h : Lns B w ps) (k : qs.Perm ps) : Lns B w qs :=
  ⟨fun p hp => h.line p (k.mem_iff.1 hp), fun p hp => h.from' p (k.mem_iff.1 hp), (k.map _).nodup_iff.2 h.rows, fun p hp q hq => h.rights p (k.mem_iff.1 hp) q (k.mem_iff.1 hq)⟩
/-- One more, in new blocks. -/
theorem Lns.snoc {B : Nat} {w w' : World} {ps : List (LV × Ln)} {x : LV} {l : Ln} (h : Lns B w ps) (k : Below w.heap.size w w') (hx : LineAt w' x l) (h1 : w.heap.size ≤ x.rb) (h2 : w.heap.size ≤ x.gb) (hne : x.gb ≠ x.rb) (hB : B ≤ w.heap.size) : Lns B w' (ps ++ [(x, l)]) := by
  have hl := h.lt
  refine ⟨fun p hp => ?_, fun p hp => ?_, ?_, fun p hp q hq => ?_⟩
  · rcases List.mem_append.1 hp with hp | hp
    · exact (h.line p hp).below k
    · rw [List.mem_singleton.1 hp]; exact hx
  · rcases List.mem_append.1 hp with hp | hp
    · exact h.from' p hp
    · rw [List.mem_singleton.1 hp]; exact ⟨by show B ≤ x.rb; omega, by show B ≤ x.gb; omega⟩
  · rw [List.map_append, List.nodup_append]
    refine ⟨h.rows, by simp, fun a ha b hb => ?_⟩
    obtain ⟨p, hp, rfl⟩ := List.mem_map.1 ha
    simp only [List.map_cons, List.map_nil, List.mem_singleton] at hb
    have := (hl p hp).1
    omega
  · rcases List.mem_append.1 hp with hp | hp <;> rcases List.mem_append.1 hq with hq | hq
    · exact h.rights p hp q hq
    · rw [List.mem_singleton.1 hq]
      have := (hl p hp).2
      show p.1.gb ≠ x.rb; omega
    · rw [List.mem_singleton.1 hp]
      have := (hl q hq).1
      show x.gb ≠ q.1.rb; omega
    · rw [List.mem_singleton.1 hp, List.mem_singleton.1 hq]; exact hne

/-! The block that is filled. -/
structure Fill3 (w : World) (g n : Nat) (xs : List LV) (cs : Array Value) : Prop where
  blk : w.heap[g]? = some (.cells cs 48 (0, 0))
  size : cs.size = n * 3
  first : cs.toList.take (xs.length * 3) = enc3 xs
theorem Fill3.below {w w' : World} {g n : Nat} {xs : List LV} {cs : Array Value} (h : Fill3 w g n xs cs) (k : Below w.heap.size w w') : Fill3 w' g n xs cs := ⟨(k.block g (Array.getElem?_eq_some_iff.1 h.blk).1).trans h.blk, h.size, h.first⟩
theorem Fill3.has {w : World} {g n : Nat} {xs : List LV} {cs : Array Value} (h : Fill3 w g n xs cs) {j : Nat} (hj : j < n * 3) : ∃ v, w.cell? ⟨g, j, none⟩ = some v :=
  ⟨cs[j]'(by rw [h.size]; exact hj), by rw [cell_of_block h.blk]; exact Array.getElem?_eq_getElem _⟩
theorem Fill3.loose {w : World} {g n : Nat} {xs : List LV} {cs : Array Value} (h : Fill3 w g n xs cs) (j : Nat) : w.frozen? ⟨g, j, none⟩ = false := unfrozen_of_block h.blk j
theorem take_three {α : Type} {L : List α} {k : Nat} {a b c : α} (h : k + 2 < L.length) : (((L.set k a).set (k + 1) b).set (k + 2) c).take (k + 3) = L.take k ++ [a, b, c] := by
  apply List.ext_getElem?
  intro i
  rw [List.getElem?_take]
  by_cases h1 : i < k
  · rw [if_pos (by omega), List.getElem?_append_left (by rw [List.length_take]; omega), List.getElem?_take, if_pos h1, List.getElem?_set_ne (by omega), List.getElem?_set_ne (by omega), List.getElem?_set_ne (by omega)]
  · have hl : (L.take k).length = k := by rw [List.length_take]; omega
    rw [List.getElem?_append_right (by rw [hl]; omega), hl]
    by_cases e0 : i = k
    · subst e0
      rw [if_pos (by omega), List.getElem?_set_ne (by omega), List.getElem?_set_ne (by omega), List.getElem?_set_self (by omega), Nat.sub_self]; rfl
    · by_cases e1 : i = k + 1
      · subst e1
        rw [if_pos (by omega), List.getElem?_set_ne (by omega), List.getElem?_set_self (by simp; omega), show k + 1 - k = 1 by omega]; rfl
      · by_cases e2 : i = k + 2
        · subst e2
          rw [if_pos (by omega), List.getElem?_set_self (by simp; omega), show k + 2 - k = 2 by omega]; rfl
        · rw [if_neg (by omega), List.getElem?_eq_none (by simp; omega)]
theorem Fill3.set {w : World} {g n : Nat} {xs : List LV} {cs : Array Value} (h : Fill3 w g n xs cs) (hk : xs.length < n) (x : LV) :
    ∃ cs', Fill3 (((w.setCell ⟨g, xs.length * 3, none⟩ (.slice (some ⟨x.rb, 0, none⟩) x.rl x.rl)).setCell ⟨g, xs.length * 3 + 1, none⟩ (.slice (some ⟨x.gb, 0, none⟩) x.gl x.gl)).setCell ⟨g, xs.length * 3 + 2, none⟩ (.int .i64 x.ld)) g n (xs ++ [x]) cs' := by
  refine ⟨_, block_setCell (block_setCell (block_setCell h.blk _) _) _, by simp [h.size], ?_⟩
  have hl : cs.toList.length = n * 3 := by simpa using h.size
  have := take_three (L := cs.toList) (k := xs.length * 3) (a := .slice (some ⟨x.rb, 0, none⟩) x.rl x.rl) (b := .slice (some ⟨x.gb, 0, none⟩) x.gl x.gl) (c := .int .i64 x.ld) (by rw [hl]; omega)
  rw [h.first] at this
  simp only [Array.toList_setIfInBounds, List.length_append, List.length_cons, List.length_nil]
  rw [show (xs.length + (0 + 1)) * 3 = xs.length * 3 + 3 by omega, this, enc3_app]
  rfl
theorem Fill3.full {w : World} {g n : Nat} {xs : List LV} {cs : Array Value} (h : Fill3 w g n xs cs) (hn : xs.length = n) : cs = (enc3 xs).toArray := by
  have := h.first
  rw [hn, List.take_of_length_le (by rw [Array.length_toList, h.size]; exact Nat.le_refl _)] at this
  rw [← this, Array.toArray_toList]
theorem make_lines (n : Nat) (hn : n ≤ 1000000) : ∃ cs : Array Value, cs.size = n * 3 ∧ ∀ w : World, (Instr.makeSlice 42 (.int .i64 (n : Int)) (.int .i64 (n : Int))).run Try.prog w = .ok (.slice (some ⟨w.heap.size, 0, none⟩) n n) (w.alloc (.cells cs 48)) := by
  obtain ⟨i0, hi, hz0, hz1, hz2⟩ := info_parts infoL
  refine ⟨madeCells (Value.agg #[.slice none 0 0, .slice none 0 0, .int .i64 0]).cells (n * i0.size), ?_, fun w => ?_⟩
  rotate_left
  · have hr := run_make (P := Try.prog) w 42 48 i0 (.agg #[.slice none 0 0, .slice none 0 0, .int .i64 0]) Try.underlying42 hi hz0 .i64 .i64 n n (by omega) (Int.le_refl _) (by rw [hz2]; omega) (by omega)
    simp only [Int.toNat_natCast] at hr
    exact hr
  · rw [size_madeCells, hz1]
theorem flat_enc3 (d : Array LV) : Sort.flatK LV.enc 3 d = (enc3 d.toList).toArray := by
  apply Array.ext
  · simp [Sort.size_flatK, enc3_len]
  · intro t h1 h2
    rw [Sort.size_flatK] at h1
    have hi : t / 3 < d.toList.length := by rw [Array.length_toList]; omega
    obtain ⟨e0, e1, e2⟩ := enc3_get (xs := d.toList) hi
    have hd : d[t / 3]! = d.toList[t / 3] := by rw [getElem!_pos d (t / 3) (by omega)]; simp
    have e : (Sort.flatK LV.enc 3 d)[t]! = (LV.enc d[t / 3]!)[t % 3]! := Sort.get_flatK _ _ _ _ h1
    rw [getElem!_pos _ t (by rw [Sort.size_flatK]; exact h1)] at e
    rw [e, hd]
    have hr : ((enc3 d.toList).toArray[t]'h2) = (enc3 d.toList)[t]'(by simpa using h2) := by simp
    rw [hr]
    have hq : (enc3 d.toList)[t]? = some ((enc3 d.toList)[t]'(by simpa using h2)) := List.getElem?_eq_getElem _
    rcases (show t % 3 = 0 ∨ t % 3 = 1 ∨ t % 3 = 2 by omega) with h | h | h
    · rw [show t / 3 * 3 = t by omega] at e0
      rw [Option.some.inj (hq.symm.trans e0), h]; rfl
    · rw [show t / 3 * 3 + 1 = t by omega] at e1
      rw [Option.some.inj (hq.symm.trans e1), h]; rfl
    · rw [show t / 3 * 3 + 2 = t by omega] at e2
      rw [Option.some.inj (hq.symm.trans e2), h]; rfl
theorem rl_of {w : World} {B : Nat} {d : Array LV} (h : w.heap[B]? = some (.cells (enc3 d.toList).toArray 48 (0, 0))) : RL w B d := by
  refine ⟨fun _ => rfl, fun x v hv => ?_, fun j hj => ?_, (Array.getElem?_eq_some_iff.1 h).1⟩
  · exact enc3_one (xs := [x]) v (by simpa [enc3] using hv)
  · rw [flat_enc3] at hj ⊢
    refine ⟨?_, unfrozen_of_block h _⟩
    rw [Nat.zero_add, cell_of_block h, getElem!_pos _ j hj]
    exact Array.getElem?_eq_getElem hj
theorem sl_block {w W : World} {B : Nat} {d0 d : Array LV} (S : SL w B d W) (h : w.heap[B]? = some (.cells (enc3 d0.toList).toArray 48 (0, 0))) (hs : d.size = d0.size) :
    W.heap[B]? = some (.cells (enc3 d.toList).toArray 48 (0, 0)) ∧ Fr (fun k => k = B) w W := by
  have hH := SWK.holds S (Array.getElem?_eq_some_iff.1 h).1 (rl_of h).hH hs
  have hlt : B < w.heap.size := (Array.getElem?_eq_some_iff.1 h).1
  obtain ⟨n, os, rfl⟩ := S
  have hheap : ∀ k, k < w.heap.size → (sortWorldK LV.enc 3 w B 0 n d os).heap[k]? = if B = k then some (.cells (Sort.putCells id 0 (Sort.flatK LV.enc 3 d) (enc3 d0.toList).toArray) 48 (0, 0)) else w.heap[k]? := fun k hk => by
    show ((w.heap.modify B _) ++ os)[k]? = _
    rw [Array.getElem?_append_left (by simpa using hk), Array.getElem?_modify]
    by_cases e : B = k
    · subst e; rw [if_pos rfl, if_pos rfl, h]; rfl
    · rw [if_neg e, if_neg e]
  have hb : ∃ cs, (sortWorldK LV.enc 3 w B 0 n d os).heap[B]? = some (.cells cs 48 (0, 0)) ∧ cs.size = d.size * 3 := by
    refine ⟨_, by rw [hheap B hlt, if_pos rfl], ?_⟩
    rw [Sort.putCells, Array.size_mapIdx]; simp [enc3_len, hs]
  obtain ⟨cs, hcs, hsz⟩ := hb
  refine ⟨?_, ?_⟩
  · rw [hcs]
    congr 2
    rw [← flat_enc3]
    apply Array.ext
    · rw [hsz, Sort.size_flatK]
    · intro t h1 h2
      have := (hH t h2).1
      rw [Nat.zero_add, cell_of_block hcs, getElem!_pos _ t h2, Array.getElem?_eq_getElem h1] at this
      simpa using this
  · refine ⟨rfl, rfl, rfl, ?_, fun k hk hne => by rw [hheap k hk, if_neg (fun e => hne e.symm)]⟩
    show w.heap.size ≤ ((w.heap.modify B _) ++ os).size
    simp

/-- As many nil slices. -/
theorem make_nils (n : Nat) (hn : n ≤ 1000000) (w : World) : ∃ w', (Instr.makeSlice 22 (.int .i64 (n : Int)) (.int .i64 (n : Int))).run Try.prog w = .ok (.slice (some ⟨w.heap.size, 0, none⟩) n n) w' ∧ Rs w'.heap.size w' (some ⟨w.heap.size, 0, none⟩) n (List.replicate n []) ∧ Below w.heap.size w w' := by
  refine ⟨_, run_make_row' (P := Try.prog) 22 32 (.slice none 0 0) 24 Try.underlying22 infoR rfl .i64 .i64 n (by omega) (by omega) w, ⟨by simp, by unfold maxLen; omega, fun e => (by cases e), .inr ⟨w.heap.size, 0, rfl, by simp, fun i hi => ?_⟩⟩, (Below.refl _ _).alloc (Nat.le_refl _) _⟩
  rw [List.length_replicate] at hi
  refine ⟨none, 0, ?_, ?_⟩
  · rw [Nat.zero_add, cell_of_block (heap_alloc_last w _)]
    simp [madeCells, hi, Nat.mod_one]
  · rw [List.getElem_replicate]
    exact ⟨nil_sl _, fun h => absurd rfl h⟩

/-! longest -/
set_option maxHeartbeats 400000 in
theorem longest_any (B : Nat) (a : Option Addr) (cap : Nat) (ls : Rws) (w : World) (hs : Rs B w a cap ls) :
    Calls Try.prog 21 #[.slice a ls.length cap] w fun e w' => e = .returned (.int .i64 ((longN ls : Nat) : Int)) ∧ w = w' := by
  have HS := Lib.hid hs
  have hlm := hs.lt
  clear hs
  go_enter Try.func21, Try.ntmps21
  go_wp2_with fail
  go_loop [3, 8] (fun m i => ∃ k : Nat, k ≤ ls.length ∧ i = .int .i64 k ∧ m = .int .i64 ((longTo ls k : Nat) : Int)) (fun _ i => ls.length - (intOf i).toNat)
  case atStart => exact ⟨0, by omega, rfl, rfl⟩
  case round =>
    obtain ⟨k, hk, rfl, rfl⟩ := hrel
    by_cases hlt : k < ls.length
    · obtain ⟨b, off, rfl, hB, hr⟩ := HS.out.some hlt
      obtain ⟨ai, ci, hck, hrw⟩ := hr k hlt
      have hsl := hrw.sl.lt
      have HT : Hid (longTo ls (k + 1) = max (longTo ls k) ls[k].length) := by show max _ _ = _; rw [getR hlt]
      generalize ls[k] = x at *
      generalize longTo ls k = m at *
      clear hr hrw
      go_wp2_with fail
      go_round
      case rel => exact ⟨k + 1, by omega, by go_num, by rw [HT.out]; first | rfl | go_num | (congr 1; omega)⟩
      case measure => simp [intOf]; omega
    · obtain rfl : k = ls.length := by omega
      go_wp2_with fail
      go_ret
      exact ⟨rfl, rfl⟩
end Go.Proofs.Ytiglmoggpjgmbaa
