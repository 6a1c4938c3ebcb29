/-
  Package codec: what an In answers.
  Package packet: how many bytes a packet says it has.
  Package packet: bytes copied into cells of a row; slices' sums that are read.
  Names, plainly: the parts of a name between the strokes; which names may be. No program in this text.
  A set (api.Set): plainly, which are formed; in memory: its files, its slices, its three cells.
  Package packet: readSums.
-/
import Derived.Test.YtechekkojinkmaaDoorMq10
import Derived.Laws.CopyRow
import Derived.Laws.IdiomCopy
import Derived.Lib.Split
import Derived.Lib.SplitLaws
import Derived.Lib.Strings
section
namespace Go.Proofs.YtechekkojinkmaaDoor
open Go.ChangeShapes Go.WideShapes Go.ChangeAt Go.RowKit Go.Joins
set_option linter.unusedVariables false

theorem inPost_of {B : Nat} {X : Nat → Prop} {w w' : World} {b : Nat} {s : Option (List Nat)} (h : InAt B X w' b s) (k : Fr X w w') : InPost InAt B X w b s w' := ⟨X, h, fun _ h => .inl h, k⟩
theorem takeI_len {s : Option (List Nat)} {n : Int} {x r : List Nat} (h : takeI s n = some (x, r)) : (x.length : Int) = n := by
  unfold takeI at h
  cases s with
  | none => cases h
  | some l =>
    simp only [Option.bind_some] at h
    split at h
    · rename_i hc
      cases h
      rw [List.length_take]
      omega
    · cases h
theorem ansR_len {s : Option (List Nat)} {n : Int} : (ansR s n).length = 0 ∨ ((ansR s n).length : Int) = n := by
  unfold ansR
  cases h : takeI s n with
  | none => exact .inl rfl
  | some p => exact .inr (takeI_len (r := p.2) (by rw [h]; rfl))

/-! A number. -/

set_option maxRecDepth 100000 in
theorem ofIntC (n : Nat) (h : n < 2 ^ 64) : (BitVec.ofInt 64 (n : Int)).toNat = n := by
  rw [BitVec.toNat_ofInt]
  omega
set_option maxRecDepth 100000 in
theorem or_byte (q x : Nat) (hx : x < 256) (hq : q * 256 + x < 281474976710656) : bits .or .i64 ((q : Int) * 256) (x : Int) = ((q * 256 + x : Nat) : Int) := by
  have e : ((q : Int) * 256) = ((q * 256 : Nat) : Int) := by omega
  rw [e]
  show IntKind.i64.wrap ((BitVec.ofInt 64 ((q * 256 : Nat) : Int) ||| BitVec.ofInt 64 (x : Int)).toNat : Int) = _
  rw [BitVec.toNat_or, ofIntC _ (by omega), ofIntC _ (by omega)]
  have h : q * 256 ||| x = q * 256 + x := by
    have := Nat.two_pow_add_eq_or_of_lt (i := 8) (b := x) (show x < 2 ^ 8 by omega) q
    simp only [Nat.reducePow] at this
    rw [Nat.mul_comm q 256]
    exact this.symm
  rw [h, IntKind.wrap_i64]
  omega

set_option maxRecDepth 100000 in
set_option maxHeartbeats 1000000 in
theorem inN_any (B : Nat) (X : Nat → Prop) (w : World) (b : Nat) (s : Option (List Nat)) (n : Int) (h : InAt B X w b s) (hn : i64R n) :
    Calls Tryd.prog 78 #[.pointer (some ⟨b, 0, none⟩), .int .i64 n] w fun e w' => e = .returned (.int .i64 (ansN s n : Int)) ∧ InAt B X w' b (restN s n) ∧ Fr X w w' := by
  have HZ := Lib.hid (sized_any n w hn)
  by_cases g : 1 ≤ n ∧ n ≤ 6
  · have HSZ : Hid (Calls Tryd.prog 68 #[.int .i64 n] w fun e w' => e = .returned (.bool true) ∧ w = w') := HZ.out.mono fun e w' h => ⟨by rw [h.1, decide_eq_true g], h.2⟩
    have HT := Lib.hid (take_any B X w b s n h hn)
    have HA : Hid (ansN s n = numN (ansR s n) ∧ restN s n = restR s n) := by
      unfold ansN restN ansR restR gN
      rw [if_pos g]
      cases takeI s n with
      | none => exact ⟨rfl, rfl⟩
      | some p => exact ⟨rfl, rfl⟩
    have hlen : (ansR s n).length ≤ 6 := by
      rcases ansR_len (s := s) (n := n) with h | h <;> omega
    obtain ⟨l, hl⟩ : ∃ l, l = ansR s n := ⟨_, rfl⟩
    have HL := Lib.hid hl
    unfold TakePost at HT
    rw [← hl] at HA HT hlen
    clear HZ g hl h
    go_enter Tryd.func78, Tryd.ntmps78
    go_wp2_with fail
    (with_reducible refine HSZ.out.mono ?_)
    rintro e w' ⟨rfl, rfl⟩
    go_wp2_with fail
    (with_reducible refine HT.out.mono ?_)
    rintro e w1 ⟨a, c, rfl, hsl, hin, hfr⟩
    have HS := Lib.hid hsl
    have HI := Lib.hid (And.intro hin hfr)
    have h0 : Hid (numN (l.take 0) = 0) := rfl
    have hbt : Hid (∀ k, k ≤ l.length → numN (l.take k) < 281474976710656) := fun k hk => by
      have h1 := numN_lt (l.take k) fun x hx => hsl.byte x (List.mem_of_mem_take hx)
      rw [List.length_take, Nat.min_eq_left hk] at h1
      have := pow6 (Nat.le_trans hk hlen)
      omega
    clear hsl hin hfr HT HSZ
    go_wp2_with fail
    go_loop [5, 17] (fun v i => ∃ k q : Nat, k ≤ l.length ∧ v = .int .i64 q ∧ i = .int .i64 k ∧ Hid (numN (l.take k) = q)) (fun _ i => l.length - (intOf i).toNat)
    case atStart => exact ⟨0, 0, by omega, rfl, rfl, h0⟩
    case round =>
      obtain ⟨k, q, hk, rfl, rfl, HQ⟩ := hrel
      clear h0
      by_cases hlt : k < l.length
      · obtain ⟨b', off, rfl, hb⟩ := HS.out.some hlt
        have hck := hb k hlt
        have hkz : (k : Int) < (l.length : Int) := by omega
        have hx : l[k] < 256 := HS.out.byte _ (List.getElem_mem hlt)
        have HN : Hid (numN (l.take (k + 1)) = q * 256 + l[k]) := by show _ = _; rw [numN_take hlt, HQ.out]
        have hq2 : q * 256 + l[k] < 281474976710656 := by rw [← HN.out]; exact hbt.out _ hlt
        obtain ⟨x, hxx⟩ : ∃ x, x = l[k] := ⟨_, rfl⟩
        rw [← hxx] at hck hx HN hq2
        clear hxx hb
        have hor := or_byte q x hx hq2
        go_wp2_with fail
        go_round
        case rel => exact ⟨k + 1, q * 256 + x, by omega, by first | rfl | go_num, by go_num, HN⟩
        case measure => simp [intOf]; omega
      · obtain rfl : k = l.length := by omega
        have HF : Hid (ansN s n = q ∧ restN s n = restR s n) := ⟨by rw [HA.out.1, ← HQ.out, List.take_length], HA.out.2⟩
        have hdd : decide ((l.length : Int) < (l.length : Int)) = false := by simp
        have hzz : ¬ (l.length : Int) < (l.length : Int) := by omega
        go_wp2_with fail
        go_ret
        exact ⟨by rw [HF.out.1]; rfl, by rw [HF.out.2]; exact HI.out⟩
  · have HSZ : Hid (Calls Tryd.prog 68 #[.int .i64 n] w fun e w' => e = .returned (.bool false) ∧ w = w') := HZ.out.mono fun e w' h => ⟨by rw [h.1, decide_eq_false g], h.2⟩
    have HFL := Lib.hid (fail_any B X w b s h)
    have HA : Hid (ansN s n = 0 ∧ restN s n = none) := by
      unfold ansN restN gN
      rw [if_neg g]
      exact ⟨rfl, rfl⟩
    clear HZ g h
    go_enter Tryd.func78, Tryd.ntmps78
    go_wp2_with fail
    (with_reducible refine HSZ.out.mono ?_)
    rintro e w' ⟨rfl, rfl⟩
    go_wp2_with fail
    (with_reducible refine HFL.out.mono ?_)
    rintro e w' ⟨rfl, hi, hf⟩
    go_wp2_with fail
    go_ret
    exact ⟨by rw [HA.out.1]; rfl, by rw [HA.out.2]; exact ⟨hi, hf⟩⟩

/-! Text and bytes. -/

theorem gT_eq (s : Option (List Nat)) : ansT s = ansR (restN s 1) (ansN s 1 : Nat) ∧ restT s = restR (restN s 1) (ansN s 1 : Nat) := by
  unfold ansT restT gT ansR restR restN ansN
  cases h : gN s 1 with
  | none => simp [takeI]
  | some p => simp
set_option maxRecDepth 100000 in
set_option maxHeartbeats 1000000 in
theorem inT_any (B : Nat) (X : Nat → Prop) (w : World) (b : Nat) (s : Option (List Nat)) (h : InAt B X w b s) :
    Calls Tryd.prog 80 #[.pointer (some ⟨b, 0, none⟩)] w fun e w' => e = .returned (.string (strOf (ansT s))) ∧ InAt B X w' b (restT s) ∧ Fr X w w' := by
  have HN := Lib.hid (inN_any B X w b s 1 h ⟨by omega, by omega⟩)
  have HG := Lib.hid (gT_eq s)
  have hlt : ansN s 1 < 281474976710656 := by
    unfold ansN gN
    rw [if_pos ⟨by omega, by omega⟩]
    cases h2 : takeI s 1 with
    | none => simp
    | some p =>
      obtain ⟨x, r⟩ := p
      have h3 := takeI_len h2
      have hby : ∀ y ∈ x, y < 256 := by
        obtain ⟨_, _, a, c, _, h4, _⟩ := h
        unfold takeI at h2
        cases s with
        | none => cases h2
        | some l =>
          simp only [Option.bind_some] at h2
          split at h2
          · cases h2
            exact fun y hy => h4.byte y (List.mem_of_mem_take hy)
          · cases h2
      have := numN_lt x hby
      have e : x.length = 1 := by omega
      rw [e] at this
      simp only [Option.map_some, Option.getD_some]
      omega
  obtain ⟨m, hm⟩ : ∃ m, m = ansN s 1 := ⟨_, rfl⟩
  rw [← hm] at HN HG hlt
  clear hm h
  go_enter Tryd.func80, Tryd.ntmps80
  go_wp2_with fail
  (with_reducible refine HN.out.mono ?_)
  rintro e w1 ⟨rfl, hin, hfr⟩
  have HT := Lib.hid (take_any B X w1 b (restN s 1) (m : Int) hin ⟨by omega, by omega⟩)
  have HF := Lib.hid hfr
  have hm64 : (m : Int) ≤ 9223372036854775807 := by omega
  clear hin hfr HN
  go_wp2_with fail
  (with_reducible refine HT.out.mono ?_)
  rintro e w2 ⟨a, c, rfl, hsl, hi, hf⟩
  have HI := Lib.hid (And.intro hi (HF.out.trans hf))
  rw [← HG.out.2] at HI
  obtain ⟨t, ht⟩ : ∃ t, t = ansR (restN s 1) (m : Int) := ⟨_, rfl⟩
  have HA : Hid (ansT s = t) := by rw [ht]; exact HG.out.1
  rw [← ht] at hsl ⊢
  have hcv := conv_sl w2 a c _ hsl
  clear hsl hi hf ht HG HF HT
  go_wp2_with fail
  go_ret
  exact ⟨by rw [HA.out]; rfl, HI.out⟩

set_option maxRecDepth 100000 in
theorem inR_any (B : Nat) (X : Nat → Prop) (w : World) (b : Nat) (s : Option (List Nat)) (n : Int) (h : InAt B X w b s) (hn : i64R n) :
    Calls Tryd.prog 51 #[.pointer (some ⟨b, 0, none⟩), .int .i64 n] w fun e w' => (∃ a c, e = .returned (.slice a (ansR s n).length c) ∧ Sl w' a c (ansR s n) ∧ ∀ p, a = some p → w.heap.size ≤ p.block) ∧ InAt B X w' b (restR s n) ∧ Fr X w w' := by
  have HT := Lib.hid (take_any B X w b s n h hn)
  have hlen : (ansR s n).length ≤ 100000 := by
    obtain ⟨_, _, a, c, _, _, h5, _⟩ := h
    unfold ansR takeI
    cases s with
    | none => simp
    | some l =>
      simp only [Option.bind_some, Option.getD_some] at h5 ⊢
      split
      · simp only [Option.map_some, Option.getD_some, List.length_take]; omega
      · simp
  obtain ⟨t, ht⟩ : ∃ t, t = ansR s n := ⟨_, rfl⟩
  unfold TakePost at HT
  rw [← ht] at HT hlen ⊢
  clear ht h hn
  go_enter Tryd.func51, Tryd.ntmps51
  go_wp2_with fail
  (with_reducible refine HT.out.mono ?_)
  rintro e w1 ⟨a, c, rfl, hsl, hi, hf⟩
  have HC := Lib.hid (clone_new a c t w1 hlen hsl)
  have HI := Lib.hid hi
  have HF := Lib.hid hf
  clear hsl hi hf HT
  go_wp2_with fail
  (with_reducible refine HC.out.mono ?_)
  rintro e w2 ⟨sa, sc, rfl, hsl, hnew, hbw⟩
  have HS := Lib.hid hsl
  have HNW : Hid (∀ p, sa = some p → w.heap.size ≤ p.block) := fun p hp => Nat.le_trans HF.out.size (hnew p hp)
  have HI2 := Lib.hid (And.intro (HI.out.keep (Fr.of_below (X := fun _ => False) hbw) fun _ _ h => h) (HF.out.later hbw))
  clear hsl hnew hbw HC
  go_wp2_with fail
  go_ret
  exact ⟨⟨sa, sc, rfl, HS.out, HNW.out⟩, HI2.out⟩

/-! Left, Bad, Done. -/

set_option maxRecDepth 100000 in
theorem inL_any (B : Nat) (X : Nat → Prop) (w : World) (b : Nat) (s : Option (List Nat)) (h : InAt B X w b s) :
    Calls Tryd.prog 81 #[.pointer (some ⟨b, 0, none⟩)] w fun e w' => e = .returned (.int .i64 (leftI s : Int)) ∧ w = w' := by
  obtain ⟨h1, h2, a, c, h3, h4, h5, h6⟩ := h
  have c0 := cell_of_block (i := 0) h3
  simp only [List.getElem?_toArray, List.getElem?_cons_zero] at c0
  obtain ⟨l, hl⟩ : ∃ l, l = s.getD [] := ⟨_, rfl⟩
  have HL : Hid (leftI s = l.length) := by unfold leftI; rw [hl]; rfl
  rw [← hl] at c0
  clear h1 h2 h3 h4 h5 h6 hl
  go_enter Tryd.func81, Tryd.ntmps81
  go_wp2_with fail
  go_ret
  exact ⟨by rw [HL.out]; rfl, rfl⟩
set_option maxRecDepth 100000 in
theorem inD_any (B : Nat) (X : Nat → Prop) (w : World) (b : Nat) (s : Option (List Nat)) (h : InAt B X w b s) :
    Calls Tryd.prog 83 #[.pointer (some ⟨b, 0, none⟩)] w fun e w' => e = .returned (.bool (decide (s = some []))) ∧ w = w' := by
  obtain ⟨h1, h2, a, c, h3, h4, h5, h6⟩ := h
  have c0 := cell_of_block (i := 0) h3
  have c1 := cell_of_block (i := 1) h3
  simp only [List.getElem?_toArray, List.getElem?_cons_zero, List.getElem?_cons_succ] at c0 c1
  clear h1 h2 h3 h4 h5 h6
  cases s with
  | none =>
    simp only [Option.isNone_none, Option.getD_none] at c0 c1
    have HR : Hid (decide ((none : Option (List Nat)) = some []) = false) := by show _ = _; simp
    go_enter Tryd.func83, Tryd.ntmps83
    go_wp2_with fail
    go_ret
    exact ⟨ret_bool HR.out.symm, rfl⟩
  | some l =>
    simp only [Option.isNone_some, Option.getD_some] at c0 c1
    have HR : Hid (decide (some l = some []) = ((l.length : Int) == 0)) := by
      show _ = _
      cases l with
      | nil => simp
      | cons x l =>
        have : (((x :: l).length : Nat) : Int) ≠ 0 := by rw [List.length_cons]; omega
        rw [beq_eq_false_iff_ne.2 this]
        simp
    go_enter Tryd.func83, Tryd.ntmps83
    go_wp2_with fail
    go_ret
    exact ⟨ret_bool HR.out.symm, rfl⟩

/-! A new one. -/

set_option maxRecDepth 100000 in
theorem inNew_any (w : World) (a : Option Addr) (c : Nat) (l : List Nat) (hs : Sl w a c l) (hl : l.length ≤ 60000) :
    Calls Tryd.prog 50 #[.slice a l.length c] w fun e w' => ∃ b X, e = .returned (.pointer (some ⟨b, 0, none⟩)) ∧ InAt w.heap.size X w' b (some l) ∧ Below w.heap.size w w' := by
  have HC := Lib.hid (clone_new a c l w (by omega) hs)
  have hlm := hs.lt
  clear hs
  go_enter Tryd.func50, Tryd.ntmps50
  go_wp2_with fail
  (with_reducible refine HC.out.mono ?_)
  rintro e w1 ⟨sa, sc, rfl, hsl, hnew, hbw⟩
  have HS := Lib.hid hsl
  have HB := Lib.hid hbw
  have HN := Lib.hid hnew
  clear hsl hbw hnew HC
  go_wp2_with fail
  go_ret
  have e0 : (w1.alloc (.cells #[.slice sa l.length sc, .bool false] 133)).heap[w1.heap.size]? = some (.cells #[.slice sa l.length sc, .bool false] 133 (0, 0)) := heap_alloc_last w1 _
  have hsz : w1.heap.size < (w1.alloc (.cells #[.slice sa l.length sc, .bool false] 133)).heap.size := (Array.getElem?_eq_some_iff.1 e0).1
  have hb1 := HB.out.size
  have ha : Below w1.heap.size w1 (w1.alloc (.cells #[.slice sa l.length sc, .bool false] 133)) := (Below.refl _ _).alloc (Nat.le_refl _) _
  refine ⟨w1.heap.size, fun k => k = w1.heap.size ∨ ∃ p, sa = some p ∧ l ≠ [] ∧ k = p.block, rfl, ⟨.inl rfl, fun k hk => ?_, sa, sc, e0, HS.out.below ha, hl, fun p hp hne => ⟨.inr ⟨p, hp, hne, rfl⟩, fun e => ?_⟩⟩, HB.out.trans (ha.mono hb1)⟩
  · rcases hk with rfl | ⟨p, hp, hne, rfl⟩
    · exact ⟨hb1, hsz⟩
    · exact ⟨HN.out p hp, Nat.lt_trans (HS.out.blk p hp hne) hsz⟩
  · have := HS.out.blk p hp hne
    omega

/-! Of nothing. -/

set_option maxRecDepth 100000 in
theorem inN_nil (w : World) (n : Int) (hn : i64R n) : Calls Tryd.prog 78 #[.pointer none, .int .i64 n] w fun e w' => e = .returned (.int .i64 0) ∧ w = w' := by
  have HZ := Lib.hid (sized_any n w hn)
  have HF := Lib.hid (fail_nil w)
  have HT := Lib.hid (take_nil_in w n)
  by_cases g : 1 ≤ n ∧ n ≤ 6
  · have HSZ : Hid (Calls Tryd.prog 68 #[.int .i64 n] w fun e w' => e = .returned (.bool true) ∧ w = w') := HZ.out.mono fun e w' h => ⟨by rw [h.1, decide_eq_true g], h.2⟩
    clear HZ g
    go_enter Tryd.func78, Tryd.ntmps78
    go_wp2_with fail
    (with_reducible refine HSZ.out.mono ?_)
    rintro e w' ⟨rfl, rfl⟩
    go_wp2_with fail
    (with_reducible refine HT.out.mono ?_)
    rintro e w' ⟨rfl, rfl⟩
    go_wp2_with fail
    go_loop [5, 17] (fun v i => v = .int .i64 0 ∧ i = .int .i64 0) (fun _ _ => 0)
    case atStart => exact ⟨rfl, rfl⟩
    case round =>
      obtain ⟨rfl, rfl⟩ := hrel
      go_wp2_with fail
      go_ret
      exact ⟨rfl, rfl⟩
  · have HSZ : Hid (Calls Tryd.prog 68 #[.int .i64 n] w fun e w' => e = .returned (.bool false) ∧ w = w') := HZ.out.mono fun e w' h => ⟨by rw [h.1, decide_eq_false g], h.2⟩
    clear HZ g
    go_enter Tryd.func78, Tryd.ntmps78
    go_wp2_with fail
    (with_reducible refine HSZ.out.mono ?_)
    rintro e w' ⟨rfl, rfl⟩
    go_wp2_with fail
    (with_reducible refine HF.out.mono ?_)
    rintro e w' ⟨rfl, rfl⟩
    go_wp2_with fail
    go_ret
    exact ⟨rfl, rfl⟩
set_option maxRecDepth 100000 in
theorem inT_nil (w : World) : Calls Tryd.prog 80 #[.pointer none] w fun e w' => e = .returned (.string (strOf [])) ∧ Below w.heap.size w w' := by
  have HN := Lib.hid (inN_nil w 1 ⟨by omega, by omega⟩)
  have HT := Lib.hid (take_nil_in w 0)
  obtain ⟨z, hz⟩ : ∃ z, z = strOf [] := ⟨_, rfl⟩
  have hcv : (convert 36 9 (.slice none 0 0)).run Tryd.prog w = .ok (.string z) w := by rw [hz]; exact conv_sl w none 0 [] (nil_sl w)
  rw [← hz]
  clear hz
  go_enter Tryd.func80, Tryd.ntmps80
  go_wp2_with fail
  (with_reducible refine HN.out.mono ?_)
  rintro e w' ⟨rfl, rfl⟩
  go_wp2_with fail
  (with_reducible refine HT.out.mono ?_)
  rintro e w' ⟨rfl, rfl⟩
  go_wp2_with fail
  go_ret
  exact ⟨rfl, Below.refl _ _⟩
set_option maxRecDepth 100000 in
theorem inR_nil (w : World) (n : Int) (hn : i64R n) : Calls Tryd.prog 51 #[.pointer none, .int .i64 n] w fun e w' => ∃ a c, e = .returned (.slice a 0 c) ∧ Below w.heap.size w w' := by
  have HT := Lib.hid (take_nil_in w n)
  have HC := Lib.hid (clone_new none 0 [] w (by simp) (nil_sl w))
  clear hn
  go_enter Tryd.func51, Tryd.ntmps51
  go_wp2_with fail
  (with_reducible refine HT.out.mono ?_)
  rintro e w' ⟨rfl, rfl⟩
  go_wp2_with fail
  refine HC.out.mono ?_
  rintro e w1 ⟨sa, sc, rfl, hsl, hnew, hbw⟩
  have HB := Lib.hid hbw
  clear hsl hnew hbw HC
  go_wp2_with fail
  go_ret
  exact ⟨sa, sc, rfl, HB.out⟩
set_option maxRecDepth 100000 in
theorem inL_nil (w : World) : Calls Tryd.prog 81 #[.pointer none] w fun e w' => e = .returned (.int .i64 0) ∧ Below w.heap.size w w' := by
  go_enter Tryd.func81, Tryd.ntmps81
  go_wp2_with fail
  go_ret
  exact ⟨rfl, Below.refl _ _⟩
set_option maxRecDepth 100000 in
theorem inD_nil (w : World) : Calls Tryd.prog 83 #[.pointer none] w fun e w' => e = .returned (.bool false) ∧ Below w.heap.size w w' := by
  go_enter Tryd.func83, Tryd.ntmps83
  go_wp2_with fail
  go_ret
  exact ⟨rfl, Below.refl _ _⟩
end Go.Proofs.YtechekkojinkmaaDoor
end

section
namespace Go.Proofs.YtechekkojinkmaaDoor
open Go.ChangeShapes Go.WideShapes Go.ChangeAt Go.RowKit Go.Joins
set_option linter.unusedVariables false

set_option maxRecDepth 100000 in
theorem equal_sl (a : Option Addr) (c : Nat) (l : List Nat) (a2 : Option Addr) (c2 : Nat) (m : List Nat) (w : World) (h : Sl w a c l) (h2 : Sl w a2 c2 m) :
    Calls Tryd.prog 93 #[.slice a l.length c, .slice a2 m.length c2] w fun e w' => e = .returned (.bool (decide (l = m))) ∧ w = w' := by
  have e1 := conv_sl w a c l h
  have e2 := conv_sl w a2 c2 m h2
  have HR := Lib.hid (str_beq h.byte h2.byte)
  clear h h2
  go_enter Tryd.func93, Tryd.ntmps93
  go_wp2_with fail
  go_ret
  exact ⟨ret_bool HR.out, rfl⟩
set_option maxRecDepth 100000 in
theorem prefix_any (a : Option Addr) (c : Nat) (l : List Nat) (a2 : Option Addr) (c2 : Nat) (m : List Nat) (w : World) (h : Sl w a c l) (h2 : Sl w a2 c2 m) (hm : m.length ≤ l.length) :
    Calls Tryd.prog 77 #[.slice a l.length c, .slice a2 m.length c2] w fun e w' => e = .returned (.bool (decide (l.take m.length = m))) ∧ w = w' := by
  have hf := h.front m.length
  have HE := Lib.hid (equal_sl a c (l.take m.length) a2 c2 m w hf h2)
  rw [List.length_take, Nat.min_eq_left hm] at HE
  have hc := cut_front h m.length hm
  have hl1 := h.lt
  have hl2 := h2.lt
  have d1 : decide ((m.length : Int) ≤ (l.length : Int)) = true := decide_eq_true (by omega)
  have hmz : (m.length : Int) ≤ (l.length : Int) := by omega
  obtain ⟨R, hR⟩ : ∃ R, R = decide (l.take m.length = m) := ⟨_, rfl⟩
  rw [← hR] at HE ⊢
  clear h h2 hf hR
  go_enter Tryd.func77, Tryd.ntmps77
  go_wp2_with fail
  (with_reducible refine HE.out.mono ?_)
  rintro e w' ⟨rfl, rfl⟩
  go_wp2_with fail
  go_ret
  exact ⟨rfl, rfl⟩

/-- b[i:j]. -/
theorem cut_mid {w : World} {b off c : Nat} {l : List Nat} (h : Sl w (some ⟨b, off, none⟩) c l) (i j : Nat) (hij : i ≤ j) (hj : j ≤ l.length) (hi : i < l.length) (I J : Int) (hI : I = (i : Int)) (hJ : J = (j : Int)) :
    (∀ W, (Instr.slice 36 (.slice (some ⟨b, off, none⟩) l.length c) (some (.int .i64 I)) (some (.int .i64 J)) none).run Tryd.prog W = .ok (.slice (some ⟨b, off + i, none⟩) (j - i) (c - i)) W) ∧ Sl w (some ⟨b, off + i, none⟩) (c - i) ((l.drop i).take (j - i)) := by
  subst hI hJ
  have hc := h.len
  refine ⟨fun W => ?_, (h.back i (by omega)).front (j - i)⟩
  rw [run_slice_lh W 36 (some ⟨b, off, none⟩) l.length c und8 .i64 .i64 _ _ (by omega) (by omega) (by omega), elem8, Tryd.sizeOf5]
  have e2 : (⟨b, off, none⟩ : Addr).add i = ⟨b, off + i, none⟩ := by
    by_cases n0 : i = 0
    · subst n0; simp [Addr.add]
    · simp [Addr.add, n0]
  simp [Result.andThen, sliced, show ¬ (c = i) by omega, e2]
theorem mid_len {l : List Nat} {i j : Nat} (hj : j ≤ l.length) : ((l.drop i).take (j - i)).length = j - i := by rw [List.length_take, List.length_drop]; omega

set_option maxRecDepth 1000000 in
set_option maxHeartbeats 2000000 in
theorem claimed_any (a : Option Addr) (c : Nat) (l : List Nat) (w : World) (hs : Sl w a c l) (hl : l.length ≤ 60000) :
    Calls Tryd.prog 49 #[.slice a l.length c] w fun e w' => e = .returned (.int .i64 (claimN l : Int)) ∧ Below w.heap.size w w' := by
  have mixed : Tryd.prog.follows .mixedOrders = true := by kernel_rfl
  have hlm := hs.lt
  have hcm : c ≤ 9223372036854775807 := by have := hs.most; unfold maxLen at this; omega
  by_cases g : l.length ≤ 48
  · have d1 : decide ((l.length : Int) ≤ 48) = true := decide_eq_true (by omega)
    have HR : Hid (claimN l = 0) := by show _ = _; unfold claimN; rw [if_neg (by omega)]
    clear hs
    go_enter Tryd.func49, Tryd.ntmps49
    go_wp2_with fail
    go_ret
    exact ⟨by rw [HR.out]; rfl, Below.refl _ _⟩
  · have d1 : decide ((l.length : Int) ≤ 48) = false := decide_eq_false (by omega)
    obtain ⟨b, off, rfl, _⟩ := hs.some (k := 0) (by omega)
    have HS := Lib.hid hs
    have hcc := Go.Lib.run_convert_bytes_const (P := Tryd.prog) w 36 5 #[.int .u8 71, .int .u8 89, .int .u8 83, .int .u8 49] 4 4 Tryd.underlying36 Tryd.underlying5
    have hG : (w.alloc (.cells #[.int .u8 71, .int .u8 89, .int .u8 83, .int .u8 49] 5 (4, 5))).heap[w.heap.size]? = some (.cells #[.int .u8 71, .int .u8 89, .int .u8 83, .int .u8 49] 5 (4, 5)) := heap_alloc_last w _
    have HB1 : Hid (Below w.heap.size w (w.alloc (.cells #[.int .u8 71, .int .u8 89, .int .u8 83, .int .u8 49] 5 (4, 5)))) := (Below.refl _ _).alloc (Nat.le_refl _) _
    have HG : Hid (Sl (w.alloc (.cells #[.int .u8 71, .int .u8 89, .int .u8 83, .int .u8 49] 5 (4, 5))) (some ⟨w.heap.size, 0, none⟩) 4 [71, 89, 83, 49]) := by
      refine ⟨by intro x hx; simp at hx; omega, by simp, by unfold maxLen; simp, fun e => (by cases e), .inr ⟨w.heap.size, 0, rfl, fun j hj => ?_⟩⟩
      have hj4 : j < 4 := hj
      rw [cell_of_row _ _ _ _ _ _ hG]
      match j, hj4 with
      | 0, _ => rfl
      | 1, _ => rfl
      | 2, _ => rfl
      | 3, _ => rfl
    have HP : Hid (Calls Tryd.prog 77 #[.slice (some ⟨b, off, none⟩) l.length c, .slice (some ⟨w.heap.size, 0, none⟩) 4 4] (w.alloc (.cells #[.int .u8 71, .int .u8 89, .int .u8 83, .int .u8 49] 5 (4, 5))) fun e w' => e = .returned (.bool (decide (l.take 4 = [71, 89, 83, 49]))) ∧ (w.alloc (.cells #[.int .u8 71, .int .u8 89, .int .u8 83, .int .u8 49] 5 (4, 5))) = w') :=
      prefix_any _ c l _ 4 [71, 89, 83, 49] _ (HS.out.below HB1.out) HG.out (by simp only [List.length_cons, List.length_nil]; omega)
    obtain ⟨w1, hw1⟩ : ∃ w1, w1 = w.alloc (.cells #[.int .u8 71, .int .u8 89, .int .u8 83, .int .u8 49] 5 (4, 5)) := ⟨_, rfl⟩
    have HS1 : Hid (Sl w1 (some ⟨b, off, none⟩) c l) := by show Sl _ _ _ _; rw [hw1]; exact HS.out.below HB1.out
    have HCLQ : Hid (¬ l.take 4 = [71, 89, 83, 49] → claimN l = 0) := fun q => by unfold claimN; rw [if_neg (fun h => q h.2.1)]
    obtain ⟨R, hR⟩ : ∃ R, R = claimN l := ⟨_, rfl⟩
    rw [← hR] at HCLQ ⊢
    have HRE := Lib.hid hR
    have hw1 := Lib.hid hw1
    clear hs hG HG HS hR
    by_cases q : l.take 4 = [71, 89, 83, 49]
    · rw [decide_eq_true q] at HP
      go_enter Tryd.func49, Tryd.ntmps49
      go_upto_region 3 with (go_at_call 77; (with_reducible refine HP.out.mono ?_); rintro e w' ⟨rfl, rfl⟩)
      clear hcc HP
      obtain ⟨k1, k2⟩ := cut_mid HS1.out 4 48 (by omega) (by omega) (by omega) 4 48 rfl rfl
      have k1' : ∀ W, (Instr.slice 36 (.slice (some ⟨b, off, none⟩) l.length c) (some (.int .i64 4)) (some (.int .i64 48)) none).run Tryd.prog W = .ok (.slice (some ⟨b, off + 4, none⟩) 44 (c - 4)) W := k1
      have hml : ((l.drop 4).take 44).length = 44 := by rw [List.length_take, List.length_drop]; omega
      have HN : Hid (Calls Tryd.prog 50 #[.slice (some ⟨b, off + 4, none⟩) 44 (c - 4)] w1 fun e w' => ∃ b X, e = .returned (.pointer (some ⟨b, 0, none⟩)) ∧ InAt w1.heap.size X w' b (some ((l.drop 4).take 44)) ∧ Below w1.heap.size w1 w') := by
        have h := inNew_any w1 (some ⟨b, off + 4, none⟩) (c - 4) _ k2 (by rw [show 48 - 4 = 44 by rfl, hml]; omega)
        rw [show 48 - 4 = 44 by rfl, hml] at h
        exact h
      have HA : Hid (ansN (some ((l.drop 4).take 44)) 4 = saidN l) := by
        have h1 : ((l.drop 4).take 44) = ((l.drop 4).take 4) ++ (((l.drop 4).take 44).drop 4) := by
          have := List.take_append_drop 4 ((l.drop 4).take 44)
          rw [List.take_take] at this
          exact this.symm
        have h2 : ((l.drop 4).take 4).length = 4 := by rw [List.length_take, List.length_drop]; omega
        show _ = _
        unfold ansN gN
        rw [if_pos ⟨by omega, by omega⟩, h1]
        have := take_app ((l.drop 4).take 4) (((l.drop 4).take 44).drop 4)
        rw [h2] at this
        rw [show (4 : Int) = ((4 : Nat) : Int) by rfl, this]
        rfl
      have hsl : saidN l < 4294967296 := by
        unfold saidN
        exact num_lt (n := 4) _ (fun y hy => HS1.out.byte y (List.mem_of_mem_drop (List.mem_of_mem_take hy))) (by rw [List.length_take, List.length_drop]; omega)
      have HCL : Hid (claimN l = if 48 < saidN l ∧ saidN l ≤ l.length then saidN l else 0) := by
        show _ = _
        unfold claimN
        by_cases z : 48 < saidN l ∧ saidN l ≤ l.length
        · rw [if_pos z, if_pos ⟨by omega, q, z⟩]
        · rw [if_neg z, if_neg (fun h => z h.2.2)]
      obtain ⟨S, hS⟩ : ∃ S, S = saidN l := ⟨_, rfl⟩
      rw [← hS] at HA HCL hsl
      rw [← HRE.out] at HCL
      obtain ⟨M, hM⟩ : ∃ M, M = (l.drop 4).take 44 := ⟨_, rfl⟩
      rw [← hM] at HA HN
      clear k1 k2 hml hS hM q HS1 HCLQ HRE
      have hwe := hw1.out
      subst hwe
      go_wp2_with fail
      (with_reducible refine HN.out.mono ?_)
      rintro e w2 ⟨ib, X, rfl, hin, hbw⟩
      have HI := Lib.hid (inN_any _ X w2 ib _ 4 hin ⟨by omega, by omega⟩)
      have HB2 := Lib.hid hbw
      have HX := Lib.hid hin.2.1
      rw [HA.out] at HI
      clear hin hbw HN HA
      go_wp2_with fail
      (with_reducible refine HI.out.mono ?_)
      rintro e w3 ⟨rfl, _, hfr⟩
      have HB3 : Hid (Below w.heap.size w w3) := HB1.out.trans ((HB2.out.trans (hfr.below HB2.out.size fun k hk hx => by have := (HX.out k hx).1; omega)).mono HB1.out.size)
      clear hfr HI HX HB2
      go_upto_region 4 with fail
      have HCL2 := HCL.out
      by_cases z : 48 < S
      · have d2 : decide ((S : Int) ≤ 48) = false := decide_eq_false (by omega)
        by_cases z2 : S ≤ l.length
        · have d3 : decide ((l.length : Int) < (S : Int)) = false := decide_eq_false (by omega)
          have HR2 : Hid (R = S) := by show _ = _; rw [HCL2, if_pos ⟨z, z2⟩]
          clear HCL HCL2
          go_wp2_with fail
          go_ret
          exact ⟨by rw [HR2.out]; rfl, HB3.out⟩
        · have d3 : decide ((l.length : Int) < (S : Int)) = true := decide_eq_true (by omega)
          have HR2 : Hid (R = 0) := by show _ = _; rw [HCL2, if_neg (fun h => z2 h.2)]
          clear HCL HCL2
          go_wp2_with fail
          go_ret
          exact ⟨by rw [HR2.out]; rfl, HB3.out⟩
      · have d2 : decide ((S : Int) ≤ 48) = true := decide_eq_true (by omega)
        have HR2 : Hid (R = 0) := by show _ = _; rw [HCL2, if_neg (fun h => z h.1)]
        clear HCL HCL2
        go_wp2_with fail
        go_ret
        exact ⟨by rw [HR2.out]; rfl, HB3.out⟩
    · rw [decide_eq_false q] at HP
      have HR := Lib.hid (HCLQ.out q)
      clear q HS1 HCLQ HRE hw1
      go_enter Tryd.func49, Tryd.ntmps49
      go_wp2_with fail
      (with_reducible refine HP.out.mono ?_)
      rintro e w' ⟨rfl, rfl⟩
      go_wp2_with fail
      go_ret
      exact ⟨by rw [HR.out]; rfl, HB1.out⟩
end Go.Proofs.YtechekkojinkmaaDoor
end

section
namespace Go.Proofs.YtechekkojinkmaaDoor
open Go.ChangeShapes Go.WideShapes Go.ChangeAt Go.RowKit Go.Joins
set_option linter.unusedVariables false

theorem info8s : (Tryd.prog.info? 5).map (·.size) = some 1 := by kernel_rfl
/-- Bytes copied into a row. -/
theorem copy_any (w : World) (ty : TypeId) (g o N k k' n dc : Nat) (F F' : Nat → Value) (t : TypeId) (a : Option Addr) (c : Nat) (x : List Nat) (hg : Row w g t N k F) (hs : Sl w a c x) (hx : x.length ≤ n) (ho : o + n ≤ N) (hk : k' ≤ N)
    (hf : ∀ j, j < k' → (o ≤ j ∧ j < o + x.length ∧ F' j = vOf x (j - o)) ∨ ((j < o ∨ o + x.length ≤ j) ∧ j < k ∧ F' j = F j)) :
    ∃ w', (Builtin.copy_ #[36, 36] ty #[.slice (some ⟨g, o, none⟩) n dc, .slice a x.length c]).run Tryd.prog w = .ok (goInt x.length) w' ∧ Row w' g t N k' F' ∧ Fr (fun j => j = g) w w' := by
  by_cases h0 : x = []
  · subst h0
    refine ⟨w, run_copy_none w 36 36 ty 5 _ _ _ _ _ _ Tryd.underlying36 info8s (by simp), ?_, Fr.refl _ _⟩
    obtain ⟨cs, h1, h2, h3⟩ := hg
    refine ⟨cs, h1, h2, fun j hj => ?_⟩
    rcases hf j hj with ⟨h4, h5, _⟩ | ⟨_, h4, h5⟩
    · simp at h5
      omega
    · rw [h3 j h4, h5]
  · obtain ⟨b, off, rfl, hb⟩ := hs.some (k := 0) (List.length_pos_iff.2 h0)
    obtain ⟨cs, h1, h2, h3⟩ := hg
    have hr := run_copy_row (P := Tryd.prog) w 36 36 ty 5 g o n dc ⟨b, off, none⟩ x.length c cs t (x.map byteV) Tryd.underlying36 info8s h1 (by rw [List.length_map]; exact (Nat.min_eq_left hx).symm) (fun j v hj => by
      rw [List.getElem?_map] at hj
      obtain ⟨y, hy, rfl⟩ := Option.map_eq_some_iff.1 hj
      obtain ⟨hjl, rfl⟩ := List.getElem?_eq_some_iff.1 hy
      have := hb j hjl
      by_cases j0 : j = 0
      · subst j0; simpa [Addr.add, byteV] using this
      · simpa [Addr.add, j0, byteV] using this) (by rw [List.length_map, h2]; omega) (fun v hv => by obtain ⟨y, _, rfl⟩ := List.mem_map.1 hv; rfl)
    rw [List.length_map] at hr
    refine ⟨_, hr, ⟨_, setRow_heap _ _ _ _ _ _ h1, ?_, fun j hj => ?_⟩, Fr.setRow (X := fun j => j = g) (Fr.refl _ w) (fun _ => rfl) _⟩
    · have : cs.toList.length = N := by rw [Array.length_toList]; exact h2
      simp only [List.size_toArray, List.length_append, List.length_take, List.length_map, List.length_drop, this]
      omega
    · have hcl : cs.toList.length = N := by rw [Array.length_toList]; exact h2
      have htl : (cs.toList.take o).length = o := by rw [List.length_take, hcl]; omega
      rw [List.getElem?_toArray]
      rcases hf j hj with ⟨h4, h5, h6⟩ | ⟨h4, h5, h6⟩
      · rw [List.getElem?_append_left (by rw [List.length_append, htl, List.length_map]; omega), List.getElem?_append_right (by rw [htl]; exact h4), htl, List.getElem?_map, List.getElem?_eq_getElem (by omega), h6, vOf_eq x (j - o) (by omega)]
        rfl
      · rw [h6, ← h3 j h5]
        rcases h4 with h4 | h4
        · rw [List.getElem?_append_left (by rw [List.length_append, htl]; omega), List.getElem?_append_left (by rw [htl]; exact h4), List.getElem?_take, if_pos h4]
          simp
        · rw [List.getElem?_append_right (by rw [List.length_append, htl, List.length_map]; exact h4), List.length_append, htl, List.length_map, List.getElem?_drop, show o + x.length + (j - (o + x.length)) = j by omega]
          simp
/-- The same as a step where the order is open. -/
theorem wp_copyB {o : Oper} {a : Act} {K : Act → World → Prop} {Q : Exit → Act → World → Prop} (w : World) (d s : Operand)
    (hop : o.op = .call { callee := .builtin .copy, args := #[d, s], argTypes := #[36, 36] })
    (g off N k k' n dc : Nat) (F F' : Nat → Value) (t : TypeId) (hd : a.eval d = .slice (some ⟨g, off, none⟩) n dc) (sa : Option Addr) (sc q : Nat) (x : List Nat) (hsv : a.eval s = .slice sa q sc) (hq : x.length = q)
    (hg : Row w g t N k F) (hs : Sl w sa sc x) (hx : x.length ≤ n) (ho : off + n ≤ N) (hk : k' ≤ N)
    (hf : ∀ j, j < k' → (off ≤ j ∧ j < off + x.length ∧ F' j = vOf x (j - off)) ∨ ((j < off ∨ off + x.length ≤ j) ∧ j < k ∧ F' j = F j))
    (h : ∀ w', Hid (Row w' g t N k' F') → Hid (Fr (fun j => j = g) w w') → K (a.put o.dst (goInt q)) w') : o.wp Tryd.prog a w K Q := by
  subst hq
  obtain ⟨w', hr, h2, h3⟩ := copy_any w o.type g off N k k' n dc F F' t sa sc x hg hs hx ho hk hf
  unfold Oper.wp execOp
  simp only [hop, resolve, invoke, builtin, Sem.run_bind, Sem.run_pure, Result.andThen_ok, List.map_toArray, List.map_cons, List.map_nil, hd, hsv, hr]
  exact h w' h2 h3

/-! Slices, made. -/

theorem infoSm : (Tryd.prog.info? 57).map (fun i => (i.zero.isSome, i.size, i.bytes)) = some (true, 34, 48) := by kernel_rfl
theorem make_sms (n : Nat) (hn : n ≤ 1000000) (w : World) : ∃ cs : Array Value, cs.size = 34 * n ∧ (Instr.makeSlice 23 (.int .i64 (n : Int)) (.int .i64 (n : Int))).run Tryd.prog w = .ok (.slice (some ⟨w.heap.size, 0, none⟩) n n) (w.alloc (.cells cs 57)) := by
  obtain ⟨i, hi, hzz⟩ := Option.map_eq_some_iff.1 infoSm
  simp only [Prod.mk.injEq] at hzz
  obtain ⟨hz, hs, hb⟩ := hzz
  obtain ⟨z, hz⟩ := Option.isSome_iff_exists.1 hz
  have hr := run_make (P := Tryd.prog) w 23 57 i z Tryd.underlying23 hi hz .i64 .i64 (n : Int) (n : Int) (by omega) (Int.le_refl _) (by rw [hb]; omega) (by omega)
  refine ⟨_, ?_, by simpa using hr⟩
  rw [hs]
  simp [size_madeCells]
  omega

/-- What the cells of slices hold. -/
def smF (m : List Nat) (j : Nat) : Value := smV (rdSm (m.drop (38 * (j / 34)))) (j % 34)
theorem smF_0 (m : List Nat) (k : Nat) : smF m (34 * k) = .int .i64 ((rdSm (m.drop (38 * k))).n) := by
  unfold smF
  rw [show 34 * k / 34 = k by omega, show 34 * k % 34 = 0 by omega]
  rfl
theorem smF_1 (m : List Nat) (k : Nat) : smF m (34 * k + 1) = .int .u32 (((rdSm (m.drop (38 * k))).crc : Nat) : Int) := by
  unfold smF
  rw [show (34 * k + 1) / 34 = k by omega, show (34 * k + 1) % 34 = 1 by omega]
  rfl
theorem smF_2 (m : List Nat) (k j : Nat) (h : j < 32) : smF m (34 * k + 2 + j) = vOf (rdSm (m.drop (38 * k))).dg j := by
  unfold smF
  rw [show (34 * k + 2 + j) / 34 = k by omega, show (34 * k + 2 + j) % 34 = 2 + j by omega]
  unfold smV
  rw [if_neg (by omega), if_neg (by omega), show 2 + j - 2 = j by omega]
/-- Cells that hold sums are sums. -/
theorem sms_of_row {w : World} {S c : Nat} {m : List Nat} (h : Row w S 57 (34 * c) (34 * c) (smF m)) (hm : 38 * c ≤ m.length) (hb : ∀ y ∈ m, y < 256) (hc : c ≤ 1000000) : Sms w (some ⟨S, 0, none⟩) c (rdSums c m) := by
  refine ⟨fun x hx => (((rdSums_flat c m hm hb).2 x hx).1), by rw [rdSums_len]; exact Nat.le_refl _, by unfold maxLen; omega, .inr ⟨S, 0, rfl, h.lt, fun i hi => ?_⟩⟩
  rw [rdSums_len] at hi
  rw [rdSums_get m hi, Nat.zero_add, Nat.mul_comm]
  refine ⟨?_, ?_, fun j hj => ?_⟩
  · rw [h.cell (34 * i) (by omega), smF_0]
  · rw [h.cell (34 * i + 1) (by omega), smF_1]
  · have hj32 : j < 32 := by
      have : ((rdSm (m.drop (38 * i))).dg).length ≤ 32 := by unfold rdSm; simp only [List.length_take]; omega
      omega
    rw [h.cell (34 * i + 2 + j) (by omega), smF_2 m i j hj32, vOf_eq _ _ hj]
end Go.Proofs.YtechekkojinkmaaDoor
end

section
namespace Go.Proofs.YtechekkojinkmaaDoor
set_option linter.unusedVariables false

/-- The parts of a name between the strokes. -/
def partsN : List UInt8 → List (List UInt8)
  | [] => [[]]
  | c :: r => if c = 47 then [] :: partsN r else match partsN r with
    | [] => [[c]]
    | p :: ps => (c :: p) :: ps
theorem partsN_ne (l : List UInt8) : partsN l ≠ [] := by
  cases l with
  | nil => simp [partsN]
  | cons c r => unfold partsN; split; · simp
                · cases partsN r <;> simp
theorem partsN_none : ∀ {a : List UInt8}, (∀ c ∈ a, c ≠ 47) → partsN a = [a]
  | [], _ => rfl
  | c :: r, h => by
    have h1 : c ≠ 47 := h c (by simp)
    have h2 := partsN_none (a := r) fun x hx => h x (by simp [hx])
    unfold partsN
    rw [if_neg h1, h2]
theorem partsN_cut : ∀ {a : List UInt8} (r : List UInt8), (∀ c ∈ a, c ≠ 47) → partsN (a ++ 47 :: r) = a :: partsN r
  | [], r, _ => by show partsN (47 :: r) = _; rw [partsN, if_pos rfl]
  | c :: t, r, h => by
    have h1 : c ≠ 47 := h c (by simp)
    have h2 := partsN_cut (a := t) r fun x hx => h x (by simp [hx])
    show partsN (c :: (t ++ 47 :: r)) = _
    rw [partsN, if_neg h1, h2]
theorem partsN_len : ∀ (l : List UInt8), (partsN l).length ≤ l.length + 1
  | [] => by simp [partsN]
  | c :: r => by
    have := partsN_len r
    unfold partsN
    split
    · simpa using this
    · cases h : partsN r with
      | nil => simp
      | cons p ps => rw [h] at this; simp at this ⊢; omega
theorem index47 : ∀ (s : List UInt8), (Lib.index s [47] = -1 ∧ ∀ c ∈ s, c ≠ 47) ∨ ∃ i : Nat, Lib.index s [47] = i ∧ i < s.length ∧ (∀ c ∈ s.take i, c ≠ 47) ∧ s = s.take i ++ 47 :: s.drop (i + 1)
  | [] => .inl ⟨by decide, by simp⟩
  | c :: r => by
    by_cases h : c = 47
    · subst h
      exact .inr ⟨0, by unfold Lib.index; rw [if_pos (by simp [List.isPrefixOf])]; rfl, by simp, by simp, by simp⟩
    · have hp : ¬ List.isPrefixOf [47] (c :: r) = true := by
        intro e
        simp [List.isPrefixOf] at e
        exact h e.symm
      rcases index47 r with ⟨h1, h2⟩ | ⟨i, h1, h2, h3, h4⟩
      · refine .inl ⟨?_, fun x hx => ?_⟩
        · unfold Lib.index
          rw [if_neg hp, h1]; rfl
        · rcases List.mem_cons.1 hx with rfl | hx
          · exact h
          · exact h2 x hx
      · refine .inr ⟨i + 1, ?_, by simpa using h2, fun x hx => ?_, ?_⟩
        · unfold Lib.index
          rw [if_neg hp, h1, if_neg (by simp)]; rfl
        · rw [List.take_succ_cons] at hx
          rcases List.mem_cons.1 hx with rfl | hx
          · exact h
          · exact h3 x hx
        · rw [List.take_succ_cons, List.drop_succ_cons, List.cons_append, ← h4]
theorem splitK_parts : ∀ (n : Nat) (s : List UInt8), s.length ≤ n → Lib.splitK [47] 0 (Lib.count s [47]) s = partsN s := by
  intro n
  induction n with
  | zero =>
    intro s hs
    obtain rfl : s = [] := List.length_eq_zero_iff.1 (by omega)
    rfl
  | succ n ih =>
    intro s hs
    rcases index47 s with ⟨h1, h2⟩ | ⟨i, h1, h2, h3, h4⟩
    · rw [Lib.count_miss h1, partsN_none h2]; rfl
    · rw [Lib.count_hit (by simp) h1, Nat.add_comm, Lib.splitK, if_neg (by rw [h1]; simp), h1]
      show s.take (i + 0) :: Lib.splitK [47] 0 (Lib.count (s.drop (i + 1)) [47]) (s.drop (i + 1)) = _
      rw [ih _ (by simp; omega)]
      conv => rhs; rw [h4]
      rw [partsN_cut _ h3]; rfl
theorem split_parts (s : ByteArray) : (Lib.splitB ⟨#[47]⟩ 0 (Lib.countB s ⟨#[47]⟩) s).map (·.data.toList) = partsN s.data.toList := by
  rw [Lib.splitB_data]
  exact splitK_parts _ _ (Nat.le_refl _)
theorem count_parts (s : ByteArray) : Lib.countB s ⟨#[47]⟩ + 1 = (partsN s.data.toList).length := by
  rw [← split_parts, List.length_map]
  exact (Lib.splitB_all ⟨#[47]⟩ (by decide) 0 _ s rfl).symm

/-- A byte that a name may have. -/
def letB (c : Nat) : Bool := (decide (97 ≤ c) && decide (c ≤ 122)) || (decide (48 ≤ c) && decide (c ≤ 57)) || decide (c = 46) || decide (c = 95) || decide (c = 45)
def partB (p : List UInt8) : Bool := !(p == []) && !(p == [46]) && !(p == [46, 46])
/-- Whether a file may have the name. -/
def nameB (l : List UInt8) : Bool := decide (l.length ≤ 40) && !Lib.hasSuffix l [46, 103, 121, 115] && l.all (fun c => letB c.toNat || decide (c.toNat = 47)) && (partsN l).all partB && !((partsN l).head? == some [111, 108, 100]) && !((partsN l).head? == some [116, 109, 112])
theorem nameB_nil : nameB [] = false := by decide +kernel
theorem nameB_iff (l : List UInt8) : nameB l = true ↔ l.length ≤ 40 ∧ Lib.hasSuffix l [46, 103, 121, 115] = false ∧ (∀ c ∈ l, letB c.toNat = true ∨ c.toNat = 47) ∧ (∀ p ∈ partsN l, partB p = true) ∧ (partsN l).head? ≠ some [111, 108, 100] ∧ (partsN l).head? ≠ some [116, 109, 112] := by
  unfold nameB
  simp only [Bool.and_eq_true, decide_eq_true_eq, Bool.not_eq_true', List.all_eq_true, Bool.or_eq_true, beq_eq_false_iff_ne, ne_eq, and_assoc]
end Go.Proofs.YtechekkojinkmaaDoor
end

section
namespace Go.Proofs.YtechekkojinkmaaDoor
open Go.ChangeShapes Go.WideShapes Go.ChangeAt Go.RowKit Go.Joins
set_option linter.unusedVariables false

/-- What a set holds. -/
structure St where
  slice : Int
  files : List Fil
  slices : List Sm
def zSm : Sm := ⟨0, 0, []⟩
def nameL (l : List Nat) : Bool := nameB (l.map fun k => UInt8.ofNat k)
/-- How long a slice is to be. -/
def wantI (s z : Int) (i : Nat) : Int := min s (z - (i : Int) * s)
structure FileOk (S : St) (n k : Nat) : Prop where
  size : 0 ≤ (S.files.getD k zFil).size
  first : (S.files.getD k zFil).first = (n : Int)
  name : nameL (S.files.getD k zFil).name = true
  once : ∀ j, j < k → (S.files.getD j zFil).name ≠ (S.files.getD k zFil).name
  room : n + cntN (S.files.getD k zFil).size S.slice ≤ S.slices.length
  cut : ∀ i, i < cntN (S.files.getD k zFil).size S.slice → (S.slices.getD (n + i) zSm).n = wantI S.slice (S.files.getD k zFil).size i
/-- The first k files are right, and have n slices. -/
inductive Good (S : St) : Nat → Nat → Prop
  | zero : Good S 0 0
  | next {k n : Nat} (g : Good S k n) (h : k < S.files.length) (ok : FileOk S n k) : Good S (k + 1) (n + cntN (S.files.getD k zFil).size S.slice)
theorem Good.one {S : St} {k : Nat} : ∀ {n m : Nat}, Good S k n → Good S k m → n = m := by
  induction k with
  | zero => intro n m h1 h2; cases h1; cases h2; rfl
  | succ k ih =>
    intro n m h1 h2
    cases h1 with
    | next g1 _ _ => cases h2 with
      | next g2 _ _ => rw [ih g1 g2]
theorem Good.prev {S : St} {k m : Nat} (h : Good S (k + 1) m) : ∃ n, Good S k n ∧ k < S.files.length ∧ FileOk S n k ∧ m = n + cntN (S.files.getD k zFil).size S.slice := by
  cases h with
  | next g h ok => exact ⟨_, g, h, ok, rfl⟩
theorem Good.room {S : St} {k n : Nat} (h : Good S k n) : n ≤ S.slices.length := by
  cases h with
  | zero => exact Nat.zero_le _
  | next g h ok => exact ok.room
theorem Good.le {S : St} {k n : Nat} (h : Good S k n) : k ≤ S.files.length := by
  cases h with
  | zero => exact Nat.zero_le _
  | next g h ok => exact h
/-- Of any fewer files too. -/
theorem Good.down {S : St} {k m : Nat} (h : Good S k m) : ∀ {j : Nat}, j ≤ k → ∃ n, Good S j n ∧ n ≤ m := by
  induction h with
  | zero => intro j hj; obtain rfl : j = 0 := by omega
            exact ⟨0, .zero, Nat.le_refl _⟩
  | @next k n g h ok ih =>
    intro j hj
    by_cases e : j = k + 1
    · subst e; exact ⟨_, .next g h ok, Nat.le_refl _⟩
    · obtain ⟨n', g', h'⟩ := ih (j := j) (by omega)
      exact ⟨n', g', by omega⟩
structure FormedP (S : St) : Prop where
  s1 : 1 ≤ S.slice
  s2 : S.slice ≤ 256
  m1 : S.slices.length ≤ 64
  f1 : 1 ≤ S.files.length
  f2 : S.files.length ≤ 8
  good : Good S S.files.length S.slices.length
/-- If a file isn't right, the set isn't formed. -/
theorem not_formed {S : St} {k n : Nat} (g : Good S k n) (h : k < S.files.length) (hf : FormedP S) : FileOk S n k := by
  obtain ⟨n', g', _⟩ := hf.good.down (j := k + 1) h
  obtain ⟨n2, g2, _, ok, _⟩ := g'.prev
  rw [g.one g2]; exact ok

/-- A file's 35 cells, from a place on. -/
def FilAt (w : World) (p off : Nat) (f : Fil) : Prop := ∀ j, j < 35 → w.cell? ⟨p, off + j, none⟩ = some (filV f j)
theorem FilAt.below {w w' : World} {p off : Nat} {f : Fil} (h : FilAt w p off f) (k : Below w.heap.size w w') : FilAt w' p off f := fun j hj => by
  have hp : p < w.heap.size := World.block_lt_of_cell? w _ (h 0 (by omega))
  exact (k.cell (p := ⟨p, off + j, none⟩) hp).trans (h j hj)
/-- The slice '.slice a l.length cap' reads as these files. -/
structure Fils (w : World) (a : Option Addr) (cap : Nat) (l : List Fil) : Prop where
  rng : ∀ x ∈ l, FilOk x
  len : l.length ≤ cap
  most : cap ≤ maxLen
  here : l = [] ∨ ∃ b off, a = some ⟨b, off, none⟩ ∧ b < w.heap.size ∧ ∀ i (h : i < l.length), FilAt w b (off + i * 35) l[i]
theorem Fils.below {w w' : World} {a : Option Addr} {cap : Nat} {l : List Fil} (h : Fils w a cap l) (k : Below w.heap.size w w') : Fils w' a cap l :=
  ⟨h.rng, h.len, h.most, by
    rcases h.here with e | ⟨b, off, e, hb, hc⟩
    · exact .inl e
    · exact .inr ⟨b, off, e, Nat.lt_of_lt_of_le hb k.size, fun i hi => (hc i hi).below k⟩⟩
theorem fils_one {w : World} {a : Option Addr} {cap : Nat} {l : List Fil} (h : Fils w a cap l) {i : Nat} (hi : i < l.length) : ∃ b off, a = some ⟨b, off, none⟩ ∧ b < w.heap.size ∧ FilAt w b (off + i * 35) l[i] := by
  rcases h.here with rfl | ⟨b, off, e, hb, hc⟩
  · simp at hi
  · exact ⟨b, off, e, hb, hc i hi⟩
theorem Fils.lt {w : World} {a : Option Addr} {cap : Nat} {l : List Fil} (h : Fils w a cap l) : l.length ≤ 9223372036854775807 := by
  have h1 := h.len; have h2 := h.most; unfold maxLen at h2; omega
/-- A set's three cells. -/
def setV (S : St) (fa : Option Addr) (fc : Nat) (sa : Option Addr) (sc : Nat) (j : Nat) : Value :=
  if j = 0 then .int .i64 S.slice else if j = 1 then .slice fa S.files.length fc else .slice sa S.slices.length sc
structure SetAt (w : World) (S : St) (fa : Option Addr) (fc : Nat) (sa : Option Addr) (sc : Nat) : Prop where
  slice : i64R S.slice
  files : Fils w fa fc S.files
  slices : Sms w sa sc S.slices
theorem SetAt.below {w w' : World} {S : St} {fa : Option Addr} {fc : Nat} {sa : Option Addr} {sc : Nat} (h : SetAt w S fa fc sa sc) (k : Below w.heap.size w w') : SetAt w' S fa fc sa sc := ⟨h.slice, h.files.below k, h.slices.below k⟩
theorem strOf_data {l : List Nat} : (strOf l).data.toList = l.map fun k => UInt8.ofNat k := by
  unfold strOf strOfNums
  simp
theorem nameL_eq (l : List Nat) : nameL l = nameB (strOf l).data.toList := by rw [strOf_data]; rfl
end Go.Proofs.YtechekkojinkmaaDoor
end

section
namespace Go.Proofs.YtechekkojinkmaaDoor
open Go.ChangeShapes Go.WideShapes Go.ChangeAt Go.RowKit Go.Joins
set_option linter.unusedVariables false

theorem read_n {l : List Nat} {n : Nat} (h1 : 1 ≤ n) (h2 : n ≤ 6) (h : n ≤ l.length) : ansN (some l) (n : Int) = numN (l.take n) ∧ restN (some l) (n : Int) = some (l.drop n) := by
  have e : gN (some l) (n : Int) = some (l.take n, l.drop n) := by
    unfold gN takeI
    rw [if_pos ⟨by omega, by omega⟩]
    simp only [Option.bind_some]
    rw [if_pos ⟨by omega, by omega⟩]
    simp
  exact ⟨by unfold ansN; rw [e]; rfl, by unfold restN; rw [e]; rfl⟩
theorem read_r {l : List Nat} {n : Nat} (h : n ≤ l.length) : ansR (some l) (n : Int) = l.take n ∧ restR (some l) (n : Int) = some (l.drop n) := by
  have e : takeI (some l) (n : Int) = some (l.take n, l.drop n) := by
    unfold takeI
    simp only [Option.bind_some]
    rw [if_pos ⟨by omega, by omega⟩]
    simp
  exact ⟨by unfold ansR; rw [e]; rfl, by unfold restR; rw [e]; rfl⟩
theorem inN_read {B : Nat} {X : Nat → Prop} {w : World} {b : Nat} {l : List Nat} (h : InAt B X w b (some l)) (n : Nat) (z : Int) (hz : z = (n : Int)) (h1 : 1 ≤ n) (h2 : n ≤ 6) (hl : n ≤ l.length) :
    Calls Tryd.prog 78 #[.pointer (some ⟨b, 0, none⟩), .int .i64 z] w fun e w' => e = .returned (.int .i64 ((numN (l.take n) : Nat) : Int)) ∧ InAt B X w' b (some (l.drop n)) ∧ Fr X w w' := by
  subst hz
  have k := inN_any B X w b _ (n : Int) h ⟨by omega, by omega⟩
  rw [(read_n h1 h2 hl).1, (read_n h1 h2 hl).2] at k
  exact k
theorem inR_read {B : Nat} {X : Nat → Prop} {w : World} {b : Nat} {l : List Nat} (h : InAt B X w b (some l)) (n : Nat) (z : Int) (hz : z = (n : Int)) (hl : n ≤ l.length) :
    Calls Tryd.prog 51 #[.pointer (some ⟨b, 0, none⟩), .int .i64 z] w fun e w' => (∃ a c, e = .returned (.slice a n c) ∧ Sl w' a c (l.take n) ∧ ∀ p, a = some p → w.heap.size ≤ p.block) ∧ InAt B X w' b (some (l.drop n)) ∧ Fr X w w' := by
  subst hz
  have hm := h.2.2
  have k := inR_any B X w b _ (n : Int) h ⟨by omega, by
    obtain ⟨_, _, _, _, h5, _⟩ := hm
    simp only [Option.getD_some] at h5
    omega⟩
  rw [(read_r hl).1, (read_r hl).2, List.length_take, Nat.min_eq_left hl] at k
  exact k
theorem Row.fr {X : Nat → Prop} {w w' : World} {g n k : Nat} {ty : TypeId} {F : Nat → Value} (h : Row w g ty n k F) (f : Fr X w w') (hx : ¬ X g) : Row w' g ty n k F := by
  have hl := h.lt
  obtain ⟨cs, h1, h2, h3⟩ := h
  exact ⟨cs, (f.block g hl hx).trans h1, h2, h3⟩
theorem u32_wrap (n : Nat) (h : n < 4294967296) : IntKind.u32.wrap (n : Int) = (n : Int) := by
  simp [IntKind.wrap, IntKind.signed, IntKind.bits]
  omega

/-- What of the sums is read behind k of them. -/
structure SumSt (B : Nat) (X : Nat → Prop) (w : World) (b S c : Nat) (m : List Nat) (k p : Nat) (q : Nat) (wr : World) : Prop where
  row : Row wr S 57 (34 * c) (34 * k + p) (smF m)
  inn : InAt B X wr b (some (m.drop (38 * k + q)))
  fr : Fr X w wr
theorem SumSt.call {B : Nat} {X : Nat → Prop} {w : World} {b S c : Nat} {m : List Nat} {k p q q' : Nat} {wr w2 : World} (h : SumSt B X w b S c m k p q wr) (hS : ¬ X S) (h1 : InAt B X w2 b (some (m.drop (38 * k + q')))) (h2 : Fr X wr w2) : SumSt B X w b S c m k p q' w2 :=
  ⟨h.row.fr h2 hS, h1, h.fr.trans h2⟩
theorem SumSt.set {B : Nat} {X : Nat → Prop} {w : World} {b S c : Nat} {m : List Nat} {k p q : Nat} {wr : World} (h : SumSt B X w b S c m k p q wr) (hS : ¬ X S) (hw : w.heap.size ≤ S) (hc : 34 * k + p < 34 * c) {v : Value} (hv : v = smF m (34 * k + p)) {i : Nat} (hi : i = 34 * k + p) : SumSt B X w b S c m k (p + 1) q (wr.setCell ⟨S, i, none⟩ v) := by
  subst hi
  exact ⟨h.row.set hc hv, h.inn.keep (Y := fun j => j = S) (Fr.set (X := fun j => j = S) (p := ⟨S, 34 * k + p, none⟩) (Fr.refl _ wr) (fun _ => rfl) v) (fun j hj e => hS (e ▸ hj)), h.fr.set (p := ⟨S, _, none⟩) (fun e => by simp at e; omega) v⟩

set_option maxRecDepth 1000000 in
set_option maxHeartbeats 4000000 in
theorem readSums_any (B : Nat) (X : Nat → Prop) (w : World) (b : Nat) (m : List Nat) (c : Nat) (hin : InAt B X w b (some m)) (hm : m.length = 38 * c) :
    Calls Tryd.prog 82 #[.pointer (some ⟨b, 0, none⟩), .int .i64 (c : Int)] w fun e w' => ∃ S, e = .returned (.slice (some ⟨S, 0, none⟩) c c) ∧ Row w' S 57 (34 * c) (34 * c) (smF m) ∧ w.heap.size ≤ S ∧ InAt B X w' b (some []) ∧ Fr X w w' := by
  have mixed : Tryd.prog.follows .mixedOrders = true := by kernel_rfl
  have hm6 : m.length ≤ 60000 := by
    obtain ⟨_, _, _, _, _, _, h, _⟩ := hin
    exact h
  have hbm : IsByte m := by
    obtain ⟨_, _, _, _, _, h, _⟩ := hin
    exact h.byte
  obtain ⟨cs, hcs, hmk⟩ := make_sms c (by omega) w
  have hXlt : ∀ j, X j → j < w.heap.size := fun j hj => (hin.2.1 j hj).2
  have hS : ¬ X w.heap.size := fun h => by have := hXlt _ h; omega
  have HSt : Hid (SumSt B X w b w.heap.size c m 0 0 0 (w.alloc (.cells cs 57))) := by
    have hb : Below w.heap.size w (w.alloc (.cells cs 57)) := (Below.refl _ _).alloc (Nat.le_refl _) _
    have hr := Row.new w cs 57 (smF m)
    rw [hcs] at hr
    exact ⟨hr, hin.keep (Fr.of_below (X := fun _ => False) hb) (fun _ _ h => h), Fr.of_below hb⟩
  have HBM := Lib.hid hbm
  have HML := Lib.hid hm
  have hc6 : c ≤ 2000 := by omega
  have HNS := Lib.hid hS
  clear hbm hcs hXlt hin hm hS
  go_enter Tryd.func82, Tryd.ntmps82
  go_wp2_with fail
  obtain ⟨S, hSS⟩ : ∃ S, S = w.heap.size := ⟨_, rfl⟩
  have hwS : w.heap.size ≤ S := by omega
  rw [← hSS] at HSt HNS ⊢
  generalize w.alloc (.cells cs 57) = w0 at *
  clear hSS hmk
  go_loopw [11] (fun j wr => ∃ k : Nat, k ≤ c ∧ j = .int .i64 (k : Int) ∧ Hid (SumSt B X w b S c m k 0 0 wr)) (fun j _ => c - (intOf j).toNat)
  case atStart => exact ⟨0, by omega, rfl, HSt⟩
  case round =>
    obtain ⟨k, hk, rfl, HA⟩ := hrel
    clear HSt
    by_cases hlt : k < c
    · have hkz : (k : Int) < (c : Int) := by omega
      have hml : 38 ≤ (m.drop (38 * k)).length := by rw [List.length_drop, HML.out]; omega
      have HN := Lib.hid (inN_read (l := m.drop (38 * k)) HA.out.inn 2 2 rfl (by omega) (by omega) (by omega))
      rw [List.drop_drop] at HN
      have HV1 : Hid (Value.int .i64 ((numN ((m.drop (38 * k)).take 2) : Nat) : Int) = smF m (34 * k)) := by show _ = _; rw [smF_0]; rfl
      obtain ⟨V1, hV1⟩ : ∃ V1, V1 = numN ((m.drop (38 * k)).take 2) := ⟨_, rfl⟩
      rw [← hV1] at HN HV1
      clear hV1
      go_wp2_with fail
      (with_reducible refine HN.out.mono ?_)
      rintro e w1 ⟨rfl, hi, hf⟩
      have HA1 := Lib.hid (HA.out.call HNS.out hi hf)
      obtain ⟨v0, c0⟩ := HA1.out.row.has (34 * k) (by omega)
      have f0 := HA1.out.row.loose (34 * k)
      rw [show 34 * k = k * 34 by omega] at c0 f0
      clear hi hf HN HA
      go_upto_region 6 with fail
      have HA2 := Lib.hid (HA1.out.set HNS.out hwS (by omega) HV1.out (i := k * 34) (by omega))
      clear HA1 HV1 c0 f0
      generalize w1.setCell ⟨S, k * 34, none⟩ (.int .i64 (V1 : Int)) = w2 at *
      have HN2 := Lib.hid (inN_read (l := m.drop (38 * k + 2)) HA2.out.inn 4 4 rfl (by omega) (by omega) (by rw [List.length_drop, HML.out]; omega))
      rw [List.drop_drop] at HN2
      have HV2 : Hid (Value.int .u32 ((numN ((m.drop (38 * k + 2)).take 4) : Nat) : Int) = smF m (34 * k + 1)) := by show _ = _; rw [smF_1]; unfold rdSm; simp only [List.drop_drop]
      have hw2 : IntKind.u32.wrap ((numN ((m.drop (38 * k + 2)).take 4) : Nat) : Int) = ((numN ((m.drop (38 * k + 2)).take 4) : Nat) : Int) := u32_wrap _ (num_lt (n := 4) _ (fun y hy => HBM.out y (List.mem_of_mem_drop (List.mem_of_mem_take hy))) (by rw [List.length_take, List.length_drop, HML.out]; omega))
      obtain ⟨V2, hV2⟩ : ∃ V2, V2 = numN ((m.drop (38 * k + 2)).take 4) := ⟨_, rfl⟩
      rw [← hV2] at HN2 HV2 hw2
      clear hV2
      go_wp2_with fail
      (with_reducible refine HN2.out.mono ?_)
      rintro e w3 ⟨rfl, hi, hf⟩
      have HA3 := Lib.hid (HA2.out.call (q' := 6) HNS.out (by rw [show 38 * k + 6 = 38 * k + 2 + 4 by omega]; exact hi) hf)
      obtain ⟨v0, c0⟩ := HA3.out.row.has (34 * k + 1) (by omega)
      have f0 := HA3.out.row.loose (34 * k + 1)
      rw [show 34 * k = k * 34 by omega] at c0 f0
      clear hi hf HN2 HA2
      go_upto_region 7 with fail
      have HA4 := Lib.hid (HA3.out.set HNS.out hwS (by omega) HV2.out (i := k * 34 + 1) (by omega))
      clear HA3 HV2 c0 f0 hw2
      generalize w3.setCell ⟨S, k * 34 + 1, none⟩ (.int .u32 (V2 : Int)) = w4 at *
      obtain ⟨wd, hwd⟩ : ∃ wd, wd = w4.drew := ⟨_, rfl⟩
      have HAd : Hid (SumSt B X w b S c m k 2 6 wd) := by
        have hb : Below w4.heap.size w4 wd := by rw [hwd]; exact (Below.refl _ _).drew
        exact HA4.out.call HNS.out (HA4.out.inn.keep (Fr.of_below (X := fun _ => False) hb) fun _ _ h => h) (Fr.of_below hb)
      clear HA4
      have HR := Lib.hid (inR_read (l := m.drop (38 * k + 6)) HAd.out.inn 32 32 rfl (by rw [List.length_drop, HML.out]; omega))
      rw [List.drop_drop] at HR
      have hdl : ((m.drop (38 * k + 6)).take 32).length = 32 := by rw [List.length_take, List.length_drop, HML.out]; omega
      refine growK_begin 7 (fun w' => ∃ u : KeepW wd X, w' = u.v) (by kernel_rfl) ?_
      rw [← hwd]
      clear hwd
      refine growK_take (by kernel_rfl) [0, 1, 2, 3, 4, 5] 2 _ _ (by kernel_rfl) _ (keep_class (Fr.refl _ _)) ?_
      simp only [opsAt, List.getElem?_toArray, List.getElem?_cons_succ, List.getElem?_cons_zero]
      repeat (first | go_big_quiet_step (fail) | quiet_step (fail))
      refine wpQuiet_nil ?_
      refine growK_one 6 (by kernel_rfl) (fun K hK => ?_)
      simp only [stepOf, List.getElem?_toArray, List.getElem?_cons_succ, List.getElem?_cons_zero]
      go_simp
      go_at_call 51
      (with_reducible refine HR.out.mono ?_)
      rintro e w5 ⟨⟨sa, sc, rfl, hs, hnew⟩, hi, hf⟩
      have HA5 := Lib.hid (HAd.out.call (q' := 38) HNS.out (by rw [show 38 * k + 38 = 38 * k + 6 + 32 by omega]; exact hi) hf)
      have HS5 := Lib.hid hs
      refine hK.out _ _ (keep_class hf) ?_
      clear hK K hs hnew hi hf HR HAd
      refine growK_last (by kernel_rfl) (by kernel_rfl) (fun K hK => ?_)
      simp only [stepOf, List.getElem?_toArray, List.getElem?_cons_succ, List.getElem?_cons_zero]
      rw [if_pos (by rfl)]
      refine wp_copyB _ (.tmp 31) (.tmp 33) rfl S (k * 34 + 2) (34 * c) (34 * k + 2) (34 * (k + 1) + 0) 32 32 (smF m) (smF m) 57 rfl sa sc 32 _ rfl hdl HA5.out.row HS5.out (by rw [hdl]; exact Nat.le_refl _) (by omega) (by omega) (fun j hj => ?_) ?_
      · rw [hdl]
        by_cases hj2 : j < 34 * k + 2
        · exact .inr ⟨by omega, hj2, rfl⟩
        · refine .inl ⟨by omega, by omega, ?_⟩
          obtain ⟨i, rfl⟩ : ∃ i, j = 34 * k + 2 + i := ⟨j - (34 * k + 2), by omega⟩
          rw [smF_2 m k i (by omega), show 34 * k + 2 + i - (k * 34 + 2) = i by omega]
          unfold rdSm
          simp only [List.drop_drop]
      intro w6 hr6 hf6
      have HA6 : Hid (SumSt B X w b S c m (k + 1) 0 0 w6) := ⟨hr6.out, by
        have := HA5.out.inn.keep hf6.out fun j hj e => HNS.out (e ▸ hj)
        rw [show 38 * k + 38 = 38 * (k + 1) + 0 by omega] at this
        exact this, HA5.out.fr.over hf6.out fun j hj => .inr (by omega)⟩
      clear hr6 hf6 HA5 HS5
      refine hK.out _ _ ?_
      clear hK K
      go_wp2_with fail
      go_roundw
      case rel => exact ⟨k + 1, by omega, by go_num, HA6⟩
      case measure => simp [intOf]; omega
    · obtain rfl : k = c := by omega
      go_wp2_with fail
      go_ret
      have hi := HA.out.inn
      rw [show m.drop (38 * k + 0) = [] by rw [List.drop_eq_nil_of_le]; rw [HML.out]; omega] at hi
      exact ⟨S, rfl, HA.out.row, hwS, hi, HA.out.fr⟩
end Go.Proofs.YtechekkojinkmaaDoor
end
