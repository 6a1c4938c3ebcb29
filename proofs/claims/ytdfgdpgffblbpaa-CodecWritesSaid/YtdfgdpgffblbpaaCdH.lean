/-
  Package codec: what an In answers.
-/
import Derived.Test.YtdfgdpgffblbpaaCdG
namespace Go.Proofs.Ytdfgdpgffblbpaa
open Go.ChangeShapes Go.WideShapes Go.ChangeAt Go.RowKit Go.Joins
set_option linter.unusedVariables false

theorem inPost_of {B : Nat} {X : Nat → Prop} {w w' : World} {b : Nat} {s : Option (List Nat)} (h : InAt B X w' b s) (k : Fr X w w') : InPost InAt B X w b s w' := ⟨X, h, fun _ h => .inl h, k⟩
theorem takeI_len {s : Option (List Nat)} {n : Int} {x r : List Nat} (h : takeI s n = some (x, r)) : (x.length : Int) = n := by
  unfold takeI at h
  cases s with
  | none => cases h
  | some l =>
    simp only [Option.bind_some] at h
    split at h
    · rename_i hc
      cases h
      rw [List.length_take]
      omega
    · cases h
theorem ansR_len {s : Option (List Nat)} {n : Int} : (ansR s n).length = 0 ∨ ((ansR s n).length : Int) = n := by
  unfold ansR
  cases h : takeI s n with
  | none => exact .inl rfl
  | some p => exact .inr (takeI_len (r := p.2) (by rw [h]; rfl))

/-! A number. -/

set_option maxRecDepth 100000 in
theorem ofIntC (n : Nat) (h : n < 2 ^ 64) : (BitVec.ofInt 64 (n : Int)).toNat = n := by
  rw [BitVec.toNat_ofInt]
  omega
set_option maxRecDepth 100000 in
theorem or_byte (q x : Nat) (hx : x < 256) (hq : q * 256 + x < 281474976710656) : bits .or .i64 ((q : Int) * 256) (x : Int) = ((q * 256 + x : Nat) : Int) := by
  have e : ((q : Int) * 256) = ((q * 256 : Nat) : Int) := by omega
  rw [e]
  show IntKind.i64.wrap ((BitVec.ofInt 64 ((q * 256 : Nat) : Int) ||| BitVec.ofInt 64 (x : Int)).toNat : Int) = _
  rw [BitVec.toNat_or, ofIntC _ (by omega), ofIntC _ (by omega)]
  have h : q * 256 ||| x = q * 256 + x := by
    have := Nat.two_pow_add_eq_or_of_lt (i := 8) (b := x) (show x < 2 ^ 8 by omega) q
    simp only [Nat.reducePow] at this
    rw [Nat.mul_comm q 256]
    exact this.symm
  rw [h, IntKind.wrap_i64]
  omega

set_option maxRecDepth 100000 in
set_option maxHeartbeats 1000000 in
theorem inN_any (B : Nat) (X : Nat → Prop) (w : World) (b : Nat) (s : Option (List Nat)) (n : Int) (h : InAt B X w b s) (hn : i64R n) :
    Calls Try.prog 14 #[.pointer (some ⟨b, 0, none⟩), .int .i64 n] w fun e w' => e = .returned (.int .i64 (ansN s n : Int)) ∧ InAt B X w' b (restN s n) ∧ Fr X w w' := by
  have HZ := Lib.hid (sized_any n w hn)
  by_cases g : 1 ≤ n ∧ n ≤ 6
  · have HSZ : Hid (Calls Try.prog 21 #[.int .i64 n] w fun e w' => e = .returned (.bool true) ∧ w = w') := HZ.out.mono fun e w' h => ⟨by rw [h.1, decide_eq_true g], h.2⟩
    have HT := Lib.hid (take_any B X w b s n h hn)
    have HA : Hid (ansN s n = numN (ansR s n) ∧ restN s n = restR s n) := by
      unfold ansN restN ansR restR gN
      rw [if_pos g]
      cases takeI s n with
      | none => exact ⟨rfl, rfl⟩
      | some p => exact ⟨rfl, rfl⟩
    have hlen : (ansR s n).length ≤ 6 := by
      rcases ansR_len (s := s) (n := n) with h | h <;> omega
    obtain ⟨l, hl⟩ : ∃ l, l = ansR s n := ⟨_, rfl⟩
    have HL := Lib.hid hl
    unfold TakePost at HT
    rw [← hl] at HA HT hlen
    clear HZ g hl h
    go_enter Try.func14, Try.ntmps14
    go_wp2_with fail
    (with_reducible refine HSZ.out.mono ?_)
    rintro e w' ⟨rfl, rfl⟩
    go_wp2_with fail
    (with_reducible refine HT.out.mono ?_)
    rintro e w1 ⟨a, c, rfl, hsl, hin, hfr⟩
    have HS := Lib.hid hsl
    have HI := Lib.hid (And.intro hin hfr)
    have h0 : Hid (numN (l.take 0) = 0) := rfl
    have hbt : Hid (∀ k, k ≤ l.length → numN (l.take k) < 281474976710656) := fun k hk => by
      have h1 := numN_lt (l.take k) fun x hx => hsl.byte x (List.mem_of_mem_take hx)
      rw [List.length_take, Nat.min_eq_left hk] at h1
      have := pow6 (Nat.le_trans hk hlen)
      omega
    clear hsl hin hfr HT HSZ
    go_wp2_with fail
    go_loop [5, 17] (fun v i => ∃ k q : Nat, k ≤ l.length ∧ v = .int .i64 q ∧ i = .int .i64 k ∧ Hid (numN (l.take k) = q)) (fun _ i => l.length - (intOf i).toNat)
    case atStart => exact ⟨0, 0, by omega, rfl, rfl, h0⟩
    case round =>
      obtain ⟨k, q, hk, rfl, rfl, HQ⟩ := hrel
      clear h0
      by_cases hlt : k < l.length
      · obtain ⟨b', off, rfl, hb⟩ := HS.out.some hlt
        have hck := hb k hlt
        have hkz : (k : Int) < (l.length : Int) := by omega
        have hx : l[k] < 256 := HS.out.byte _ (List.getElem_mem hlt)
        have HN : Hid (numN (l.take (k + 1)) = q * 256 + l[k]) := by show _ = _; rw [numN_take hlt, HQ.out]
        have hq2 : q * 256 + l[k] < 281474976710656 := by rw [← HN.out]; exact hbt.out _ hlt
        obtain ⟨x, hxx⟩ : ∃ x, x = l[k] := ⟨_, rfl⟩
        rw [← hxx] at hck hx HN hq2
        clear hxx hb
        have hor := or_byte q x hx hq2
        go_wp2_with fail
        go_round
        case rel => exact ⟨k + 1, q * 256 + x, by omega, by first | rfl | go_num, by go_num, HN⟩
        case measure => simp [intOf]; omega
      · obtain rfl : k = l.length := by omega
        have HF : Hid (ansN s n = q ∧ restN s n = restR s n) := ⟨by rw [HA.out.1, ← HQ.out, List.take_length], HA.out.2⟩
        have hdd : decide ((l.length : Int) < (l.length : Int)) = false := by simp
        have hzz : ¬ (l.length : Int) < (l.length : Int) := by omega
        go_wp2_with fail
        go_ret
        exact ⟨by rw [HF.out.1]; rfl, by rw [HF.out.2]; exact HI.out⟩
  · have HSZ : Hid (Calls Try.prog 21 #[.int .i64 n] w fun e w' => e = .returned (.bool false) ∧ w = w') := HZ.out.mono fun e w' h => ⟨by rw [h.1, decide_eq_false g], h.2⟩
    have HFL := Lib.hid (fail_any B X w b s h)
    have HA : Hid (ansN s n = 0 ∧ restN s n = none) := by
      unfold ansN restN gN
      rw [if_neg g]
      exact ⟨rfl, rfl⟩
    clear HZ g h
    go_enter Try.func14, Try.ntmps14
    go_wp2_with fail
    (with_reducible refine HSZ.out.mono ?_)
    rintro e w' ⟨rfl, rfl⟩
    go_wp2_with fail
    (with_reducible refine HFL.out.mono ?_)
    rintro e w' ⟨rfl, hi, hf⟩
    go_wp2_with fail
    go_ret
    exact ⟨by rw [HA.out.1]; rfl, by rw [HA.out.2]; exact ⟨hi, hf⟩⟩

/-! Text and bytes. -/

theorem gT_eq (s : Option (List Nat)) : ansT s = ansR (restN s 1) (ansN s 1 : Nat) ∧ restT s = restR (restN s 1) (ansN s 1 : Nat) := by
  unfold ansT restT gT ansR restR restN ansN
  cases h : gN s 1 with
  | none => simp [takeI]
  | some p => simp
set_option maxRecDepth 100000 in
set_option maxHeartbeats 1000000 in
theorem inT_any (B : Nat) (X : Nat → Prop) (w : World) (b : Nat) (s : Option (List Nat)) (h : InAt B X w b s) :
    Calls Try.prog 15 #[.pointer (some ⟨b, 0, none⟩)] w fun e w' => e = .returned (.string (strOf (ansT s))) ∧ InPost InAt B X w b (restT s) w' := by
  have HN := Lib.hid (inN_any B X w b s 1 h ⟨by omega, by omega⟩)
  have HG := Lib.hid (gT_eq s)
  have hlt : ansN s 1 < 281474976710656 := by
    unfold ansN gN
    rw [if_pos ⟨by omega, by omega⟩]
    cases h2 : takeI s 1 with
    | none => simp
    | some p =>
      obtain ⟨x, r⟩ := p
      have h3 := takeI_len h2
      have hby : ∀ y ∈ x, y < 256 := by
        obtain ⟨_, _, a, c, _, h4, _⟩ := h
        unfold takeI at h2
        cases s with
        | none => cases h2
        | some l =>
          simp only [Option.bind_some] at h2
          split at h2
          · cases h2
            exact fun y hy => h4.byte y (List.mem_of_mem_take hy)
          · cases h2
      have := numN_lt x hby
      have e : x.length = 1 := by omega
      rw [e] at this
      simp only [Option.map_some, Option.getD_some]
      omega
  obtain ⟨m, hm⟩ : ∃ m, m = ansN s 1 := ⟨_, rfl⟩
  rw [← hm] at HN HG hlt
  clear hm h
  go_enter Try.func15, Try.ntmps15
  go_wp2_with fail
  (with_reducible refine HN.out.mono ?_)
  rintro e w1 ⟨rfl, hin, hfr⟩
  have HT := Lib.hid (take_any B X w1 b (restN s 1) (m : Int) hin ⟨by omega, by omega⟩)
  have HF := Lib.hid hfr
  have hm64 : (m : Int) ≤ 9223372036854775807 := by omega
  clear hin hfr HN
  go_wp2_with fail
  (with_reducible refine HT.out.mono ?_)
  rintro e w2 ⟨a, c, rfl, hsl, hi, hf⟩
  have HI := Lib.hid (inPost_of hi (HF.out.trans hf))
  rw [← HG.out.2] at HI
  obtain ⟨t, ht⟩ : ∃ t, t = ansR (restN s 1) (m : Int) := ⟨_, rfl⟩
  have HA : Hid (ansT s = t) := by rw [ht]; exact HG.out.1
  rw [← ht] at hsl ⊢
  have hcv := conv_sl w2 a c _ hsl
  clear hsl hi hf ht HG HF HT
  go_wp2_with fail
  go_ret
  exact ⟨by rw [HA.out]; rfl, HI.out⟩

set_option maxRecDepth 100000 in
theorem inR_any (B : Nat) (X : Nat → Prop) (w : World) (b : Nat) (s : Option (List Nat)) (n : Int) (h : InAt B X w b s) (hn : i64R n) :
    Calls Try.prog 16 #[.pointer (some ⟨b, 0, none⟩), .int .i64 n] w fun e w' => (∃ a c, e = .returned (.slice a (ansR s n).length c) ∧ Sl w' a c (ansR s n)) ∧ InPost InAt B X w b (restR s n) w' := by
  have HT := Lib.hid (take_any B X w b s n h hn)
  have hlen : (ansR s n).length ≤ 100000 := by
    obtain ⟨_, _, a, c, _, _, h5, _⟩ := h
    unfold ansR takeI
    cases s with
    | none => simp
    | some l =>
      simp only [Option.bind_some, Option.getD_some] at h5 ⊢
      split
      · simp only [Option.map_some, Option.getD_some, List.length_take]; omega
      · simp
  obtain ⟨t, ht⟩ : ∃ t, t = ansR s n := ⟨_, rfl⟩
  unfold TakePost at HT
  rw [← ht] at HT hlen ⊢
  clear ht h hn
  go_enter Try.func16, Try.ntmps16
  go_wp2_with fail
  (with_reducible refine HT.out.mono ?_)
  rintro e w1 ⟨a, c, rfl, hsl, hi, hf⟩
  have HC := Lib.hid (clone_new a c t w1 hlen hsl)
  have HI := Lib.hid hi
  have HF := Lib.hid hf
  clear hsl hi hf HT
  go_wp2_with fail
  (with_reducible refine HC.out.mono ?_)
  rintro e w2 ⟨sa, sc, rfl, hsl, hnew, hbw⟩
  have HS := Lib.hid hsl
  have HI2 := Lib.hid (inPost_of (HI.out.keep (Fr.of_below (X := fun _ => False) hbw) fun _ _ h => h) (HF.out.later hbw))
  clear hsl hnew hbw HC
  go_wp2_with fail
  go_ret
  exact ⟨⟨sa, sc, rfl, HS.out⟩, HI2.out⟩

/-! Left, Bad, Done. -/

set_option maxRecDepth 100000 in
theorem inL_any (B : Nat) (X : Nat → Prop) (w : World) (b : Nat) (s : Option (List Nat)) (h : InAt B X w b s) :
    Calls Try.prog 20 #[.pointer (some ⟨b, 0, none⟩)] w fun e w' => e = .returned (.int .i64 (leftI s : Int)) ∧ InPost InAt B X w b s w' := by
  have HI := Lib.hid (inPost_of h (Fr.refl X w))
  obtain ⟨h1, h2, a, c, h3, h4, h5, h6⟩ := h
  have c0 := cell_of_block (i := 0) h3
  simp only [List.getElem?_toArray, List.getElem?_cons_zero] at c0
  obtain ⟨l, hl⟩ : ∃ l, l = s.getD [] := ⟨_, rfl⟩
  have HL : Hid (leftI s = l.length) := by unfold leftI; rw [hl]; rfl
  rw [← hl] at c0
  clear h1 h2 h3 h4 h5 h6 hl
  go_enter Try.func20, Try.ntmps20
  go_wp2_with fail
  go_ret
  exact ⟨by rw [HL.out]; rfl, HI.out⟩
set_option maxRecDepth 100000 in
theorem inB_any (B : Nat) (X : Nat → Prop) (w : World) (b : Nat) (s : Option (List Nat)) (h : InAt B X w b s) :
    Calls Try.prog 18 #[.pointer (some ⟨b, 0, none⟩)] w fun e w' => e = .returned (.bool s.isNone) ∧ InPost InAt B X w b s w' := by
  have HI := Lib.hid (inPost_of h (Fr.refl X w))
  obtain ⟨h1, h2, a, c, h3, h4, h5, h6⟩ := h
  have c1 := cell_of_block (i := 1) h3
  simp only [List.getElem?_toArray, List.getElem?_cons_zero, List.getElem?_cons_succ] at c1
  clear h1 h2 h3 h4 h5 h6
  go_enter Try.func18, Try.ntmps18
  go_wp2_with fail
  go_ret
  exact ⟨rfl, HI.out⟩
set_option maxRecDepth 100000 in
theorem inD_any (B : Nat) (X : Nat → Prop) (w : World) (b : Nat) (s : Option (List Nat)) (h : InAt B X w b s) :
    Calls Try.prog 17 #[.pointer (some ⟨b, 0, none⟩)] w fun e w' => e = .returned (.bool (decide (s = some []))) ∧ InPost InAt B X w b s w' := by
  have HI := Lib.hid (inPost_of h (Fr.refl X w))
  obtain ⟨h1, h2, a, c, h3, h4, h5, h6⟩ := h
  have c0 := cell_of_block (i := 0) h3
  have c1 := cell_of_block (i := 1) h3
  simp only [List.getElem?_toArray, List.getElem?_cons_zero, List.getElem?_cons_succ] at c0 c1
  clear h1 h2 h3 h4 h5 h6
  cases s with
  | none =>
    simp only [Option.isNone_none, Option.getD_none] at c0 c1
    have HR : Hid (decide ((none : Option (List Nat)) = some []) = false) := by show _ = _; simp
    go_enter Try.func17, Try.ntmps17
    go_wp2_with fail
    go_ret
    exact ⟨ret_bool HR.out.symm, HI.out⟩
  | some l =>
    simp only [Option.isNone_some, Option.getD_some] at c0 c1
    have HR : Hid (decide (some l = some []) = ((l.length : Int) == 0)) := by
      show _ = _
      cases l with
      | nil => simp
      | cons x l =>
        have : (((x :: l).length : Nat) : Int) ≠ 0 := by rw [List.length_cons]; omega
        rw [beq_eq_false_iff_ne.2 this]
        simp
    go_enter Try.func17, Try.ntmps17
    go_wp2_with fail
    go_ret
    exact ⟨ret_bool (by rw [HR.out]), HI.out⟩

/-! A new one. -/

set_option maxRecDepth 100000 in
theorem inNew_any (w : World) (a : Option Addr) (c : Nat) (l : List Nat) (hs : Sl w a c l) (hl : l.length ≤ 60000) :
    Calls Try.prog 13 #[.slice a l.length c] w fun e w' => ∃ b X, e = .returned (.pointer (some ⟨b, 0, none⟩)) ∧ InAt w.heap.size X w' b (some l) ∧ Below w.heap.size w w' := by
  have HC := Lib.hid (clone_new a c l w (by omega) hs)
  have hlm := hs.lt
  clear hs
  go_enter Try.func13, Try.ntmps13
  go_wp2_with fail
  (with_reducible refine HC.out.mono ?_)
  rintro e w1 ⟨sa, sc, rfl, hsl, hnew, hbw⟩
  have HS := Lib.hid hsl
  have HB := Lib.hid hbw
  have HN := Lib.hid hnew
  clear hsl hbw hnew HC
  go_wp2_with fail
  go_ret
  have e0 : (w1.alloc (.cells #[.slice sa l.length sc, .bool false] 58)).heap[w1.heap.size]? = some (.cells #[.slice sa l.length sc, .bool false] 58 (0, 0)) := heap_alloc_last w1 _
  have hsz : w1.heap.size < (w1.alloc (.cells #[.slice sa l.length sc, .bool false] 58)).heap.size := (Array.getElem?_eq_some_iff.1 e0).1
  have hb1 := HB.out.size
  have ha : Below w1.heap.size w1 (w1.alloc (.cells #[.slice sa l.length sc, .bool false] 58)) := (Below.refl _ _).alloc (Nat.le_refl _) _
  refine ⟨w1.heap.size, fun k => k = w1.heap.size ∨ ∃ p, sa = some p ∧ l ≠ [] ∧ k = p.block, rfl, ⟨.inl rfl, fun k hk => ?_, sa, sc, e0, HS.out.below ha, hl, fun p hp hne => ⟨.inr ⟨p, hp, hne, rfl⟩, fun e => ?_⟩⟩, HB.out.trans (ha.mono hb1)⟩
  · rcases hk with rfl | ⟨p, hp, hne, rfl⟩
    · exact ⟨hb1, hsz⟩
    · exact ⟨HN.out p hp, Nat.lt_trans (HS.out.blk p hp hne) hsz⟩
  · have := HS.out.blk p hp hne
    omega

/-! Of nothing. -/

set_option maxRecDepth 100000 in
theorem inN_nil (w : World) (n : Int) (hn : i64R n) : Calls Try.prog 14 #[.pointer none, .int .i64 n] w fun e w' => e = .returned (.int .i64 0) ∧ w = w' := by
  have HZ := Lib.hid (sized_any n w hn)
  have HF := Lib.hid (fail_nil w)
  have HT := Lib.hid (take_nil_in w n)
  by_cases g : 1 ≤ n ∧ n ≤ 6
  · have HSZ : Hid (Calls Try.prog 21 #[.int .i64 n] w fun e w' => e = .returned (.bool true) ∧ w = w') := HZ.out.mono fun e w' h => ⟨by rw [h.1, decide_eq_true g], h.2⟩
    clear HZ g
    go_enter Try.func14, Try.ntmps14
    go_wp2_with fail
    (with_reducible refine HSZ.out.mono ?_)
    rintro e w' ⟨rfl, rfl⟩
    go_wp2_with fail
    (with_reducible refine HT.out.mono ?_)
    rintro e w' ⟨rfl, rfl⟩
    go_wp2_with fail
    go_loop [5, 17] (fun v i => v = .int .i64 0 ∧ i = .int .i64 0) (fun _ _ => 0)
    case atStart => exact ⟨rfl, rfl⟩
    case round =>
      obtain ⟨rfl, rfl⟩ := hrel
      go_wp2_with fail
      go_ret
      exact ⟨rfl, rfl⟩
  · have HSZ : Hid (Calls Try.prog 21 #[.int .i64 n] w fun e w' => e = .returned (.bool false) ∧ w = w') := HZ.out.mono fun e w' h => ⟨by rw [h.1, decide_eq_false g], h.2⟩
    clear HZ g
    go_enter Try.func14, Try.ntmps14
    go_wp2_with fail
    (with_reducible refine HSZ.out.mono ?_)
    rintro e w' ⟨rfl, rfl⟩
    go_wp2_with fail
    (with_reducible refine HF.out.mono ?_)
    rintro e w' ⟨rfl, rfl⟩
    go_wp2_with fail
    go_ret
    exact ⟨rfl, rfl⟩
set_option maxRecDepth 100000 in
theorem inT_nil (w : World) : Calls Try.prog 15 #[.pointer none] w fun e w' => e = .returned (.string (strOf [])) ∧ Below w.heap.size w w' := by
  have HN := Lib.hid (inN_nil w 1 ⟨by omega, by omega⟩)
  have HT := Lib.hid (take_nil_in w 0)
  obtain ⟨z, hz⟩ : ∃ z, z = strOf [] := ⟨_, rfl⟩
  have hcv : (convert 28 9 (.slice none 0 0)).run Try.prog w = .ok (.string z) w := by rw [hz]; exact conv_sl w none 0 [] (nil_sl w)
  rw [← hz]
  clear hz
  go_enter Try.func15, Try.ntmps15
  go_wp2_with fail
  (with_reducible refine HN.out.mono ?_)
  rintro e w' ⟨rfl, rfl⟩
  go_wp2_with fail
  (with_reducible refine HT.out.mono ?_)
  rintro e w' ⟨rfl, rfl⟩
  go_wp2_with fail
  go_ret
  exact ⟨rfl, Below.refl _ _⟩
set_option maxRecDepth 100000 in
theorem inR_nil (w : World) (n : Int) (hn : i64R n) : Calls Try.prog 16 #[.pointer none, .int .i64 n] w fun e w' => ∃ a c, e = .returned (.slice a 0 c) ∧ Below w.heap.size w w' := by
  have HT := Lib.hid (take_nil_in w n)
  have HC := Lib.hid (clone_new none 0 [] w (by simp) (nil_sl w))
  clear hn
  go_enter Try.func16, Try.ntmps16
  go_wp2_with fail
  (with_reducible refine HT.out.mono ?_)
  rintro e w' ⟨rfl, rfl⟩
  go_wp2_with fail
  refine HC.out.mono ?_
  rintro e w1 ⟨sa, sc, rfl, hsl, hnew, hbw⟩
  have HB := Lib.hid hbw
  clear hsl hnew hbw HC
  go_wp2_with fail
  go_ret
  exact ⟨sa, sc, rfl, HB.out⟩
set_option maxRecDepth 100000 in
theorem inL_nil (w : World) : Calls Try.prog 20 #[.pointer none] w fun e w' => e = .returned (.int .i64 0) ∧ Below w.heap.size w w' := by
  go_enter Try.func20, Try.ntmps20
  go_wp2_with fail
  go_ret
  exact ⟨rfl, Below.refl _ _⟩
set_option maxRecDepth 100000 in
theorem inB_nil (w : World) : Calls Try.prog 18 #[.pointer none] w fun e w' => e = .returned (.bool false) ∧ Below w.heap.size w w' := by
  go_enter Try.func18, Try.ntmps18
  go_wp2_with fail
  go_ret
  exact ⟨rfl, Below.refl _ _⟩
set_option maxRecDepth 100000 in
theorem inD_nil (w : World) : Calls Try.prog 17 #[.pointer none] w fun e w' => e = .returned (.bool false) ∧ Below w.heap.size w w' := by
  go_enter Try.func17, Try.ntmps17
  go_wp2_with fail
  go_ret
  exact ⟨rfl, Below.refl _ _⟩
/-- What an In does. -/
theorem inC : InC InAt :=
  ⟨fun h k _ hx => h.keep k hx, fun h => h.2.1, inNew_any, fun B X w b s n h hn => (inN_any B X w b s n h hn).mono fun e w' k => ⟨k.1, inPost_of k.2.1 k.2.2⟩, inT_any, inR_any, inL_any, inB_any, inD_any, fun w n hn => (inN_nil w n hn).mono fun e w' k => ⟨k.1, k.2 ▸ Below.refl _ _⟩, inT_nil, inR_nil, inL_nil, inB_nil, inD_nil⟩
end Go.Proofs.Ytdfgdpgffblbpaa
