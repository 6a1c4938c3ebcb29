/-
  The laws of package encode: awake; EncodeMakes, walked.
-/
import Derived.Test.YtgfcpneblkleiaaEncB
import Derived.Test.YtgfcpneblkleiaaDocRow
import Derived.Test.YtgfcpneblkleiaaPreLawB
import Derived.Test.YtgfcpneblkleiaaRowsIn
namespace Go.Proofs.Ytgfcpneblkleiaa
open Go.ChangeShapes Go.WideShapes Go.ChangeAt Go.RowKit Go.Joins
set_option linter.unusedVariables false

theorem nought_rs (w : World) (b c : Nat) (hc : c < w.heap.size) (h0 : w.cell? ⟨b, 0, none⟩ = some (.int .u8 0)) (h1 : w.cell? ⟨c, 0, none⟩ = some (.slice (some ⟨b, 0, none⟩) 1 1)) : Rs w.heap.size w (some ⟨c, 0, none⟩) 1 [[0]] := by
  refine ⟨Nat.le_refl _, by unfold maxLen; omega, fun e => (by cases e), .inr ⟨c, 0, rfl, hc, fun i hi => ?_⟩⟩
  obtain rfl : i = 0 := by simp at hi; omega
  refine ⟨some ⟨b, 0, none⟩, 1, h1, Rw.of_sl ⟨?_, by simp, by unfold maxLen; omega, fun e => (by cases e), .inr ⟨b, 0, rfl, fun j hj => ?_⟩⟩⟩
  · intro n hn
    have : n = 0 := by simpa using hn
    omega
  · obtain rfl : j = 0 := by simp at hj; omega
    exact h0

set_option maxRecDepth 100000 in
theorem awake9_any (w : World) : Calls Try.prog 5 #[] w fun e w' => e = .returned (.bool true) ∧ Below w.heap.size w w' := by
  have E1 : Hid (∀ (b c : Nat) (w' : World), c < w'.heap.size → w'.cell? ⟨b, 0, none⟩ = some (.int .u8 0) → w'.cell? ⟨c, 0, none⟩ = some (.slice (some ⟨b, 0, none⟩) 1 1) → Calls Try.prog 9 #[.slice (some ⟨c, 0, none⟩) 1 1, .int .i64 3, .int .u32 1] w' fun e w2 => Below w'.heap.size w' w2 ∧ ∃ g, e = .returned (.tuple #[.slice (some ⟨g, 0, none⟩) 3 3, .int .i64 0])) := fun b c w' h1 h2 h3 =>
    (esymbol_any (some ⟨c, 0, none⟩) 1 [[0]] 3 1 w' (nought_rs w' b c h1 h2 h3) (by simp) (by simp) (by omega) (by omega) (by omega)).mono fun e w2 ⟨hb, h⟩ => by
      rcases h with ⟨_, g, h, _⟩ | ⟨h, _⟩
      · exact ⟨hb, g, h⟩
      · exact absurd h (by decide)
  go_enter Try.func5, Try.ntmps5
  go_wp2_with fail
  refine (E1.out w.heap.size (w.heap.size + 1) _ (by simp) (by simp) (by simp)).mono ?_
  rintro e w1 ⟨b1, g, rfl⟩
  have HB1 : Hid (Below w.heap.size w w1) := ((Below.refl w.heap.size w).alloc (Nat.le_refl _) _).trans ((((Below.refl _ _).alloc (Nat.le_refl _) _).trans (b1.mono (by simp))).mono (by simp))
  clear b1 E1
  go_wp2_with fail
  go_ret
  exact ⟨rfl, HB1.out⟩

/-- Nothing is asked of these. -/
theorem makes_big (a : Option Addr) (cap : Nat) (ls : Rws) (m : Int) (ka : Option Addr) (kn kcap : Nat) (w : World) (hs : Rs w.heap.size w a cap ls) (hkn : kn ≤ 9223372036854775807) (hb : srcB ls = false ∨ 70 < kn) :
    Calls Try.prog 3 #[.slice a ls.length cap, .int .i64 m, .slice ka kn kcap] w (TrueAnd w) := by
  have HAW := Lib.hid awake9_any
  have HSRC : Hid (∀ w', Below w.heap.size w w' → Calls Try.prog 6 #[.slice a ls.length cap] w' fun e w'' => e = .returned (.bool (srcB ls)) ∧ w' = w'') := fun w' h => sources_any _ a cap ls w' (hs.keep (Nat.le_refl _) (Keep.of_below h))
  clear hs
  generalize srcB ls = B at *
  cases B
  · clear hb
    go_enter Try.func3, Try.ntmps3
    go_wp2_with fail
    refine (HAW.out _).mono ?_
    rintro e w1 ⟨rfl, b1⟩
    have HC := Lib.hid (HSRC.out w1 b1)
    have HB1 := Lib.hid b1
    clear b1
    go_wp2_with fail
    refine HC.out.mono ?_
    rintro e w' ⟨rfl, rfl⟩
    go_wp2_with fail
    refine (HAW.out _).mono ?_
    rintro e w2 ⟨rfl, b2⟩
    have HB2 : Hid (Below w.heap.size w w2) := HB1.out.trans (b2.mono HB1.out.size)
    clear b2
    go_wp2_with fail
    go_ret
    exact ⟨rfl, HB2.out⟩
  · have hk : 70 < kn := by simpa using hb
    have hd : (70 : Int) < (kn : Int) := by omega
    clear hb
    go_enter Try.func3, Try.ntmps3
    go_wp2_with fail
    refine (HAW.out _).mono ?_
    rintro e w1 ⟨rfl, b1⟩
    have HC := Lib.hid (HSRC.out w1 b1)
    have HB1 := Lib.hid b1
    clear b1
    go_wp2_with fail
    refine HC.out.mono ?_
    rintro e w' ⟨rfl, rfl⟩
    go_wp2_with fail
    refine (HAW.out _).mono ?_
    rintro e w2 ⟨rfl, b2⟩
    have HB2 : Hid (Below w.heap.size w w2) := HB1.out.trans (b2.mono HB1.out.size)
    clear b2
    go_wp2_with fail
    go_ret
    exact ⟨rfl, HB2.out⟩

/-- Refused for one thing: the law sees the same. -/
theorem makes_bad (a : Option Addr) (cap n : Nat) (m q : Int) (ka : Option Addr) (kn kcap : Nat) (hkn : kn ≤ 70) (hq : q = 1 ∨ q = 3 ∨ q = 5) (w : World)
    (hsrc : ∀ w', Below w.heap.size w w' → Calls Try.prog 6 #[.slice a n cap] w' fun e w'' => e = .returned (.bool true) ∧ w' = w'')
    (hp : ∀ w', Below w.heap.size w w' → Calls Try.prog 7 #[.slice a n cap, .int .i64 m, .slice ka kn kcap] w' fun e w'' => e = .returned (.tuple #[.slice none 0 0, .int .i64 q]) ∧ Below w'.heap.size w' w'')
    (hwr : ∀ w', Below w.heap.size w w' → Calls Try.prog 8 #[.slice a n cap, .int .i64 m] w' fun e w'' => e = .returned (.int .i64 q) ∧ w' = w'') :
    Calls Try.prog 3 #[.slice a n cap, .int .i64 m, .slice ka kn kcap] w (TrueAnd w) := by
  have HAW := Lib.hid awake9_any
  have HSRC := Lib.hid hsrc
  have HP := Lib.hid hp
  have HW := Lib.hid hwr
  clear hsrc hp hwr
  have hd : ¬ (70 : Int) < (kn : Int) := by omega
  rcases hq with rfl | rfl | rfl
  all_goals
    go_enter Try.func3, Try.ntmps3
    go_wp2_with fail
    refine (HAW.out _).mono ?_
    rintro e w1 ⟨rfl, b1⟩
    have HC := Lib.hid (HSRC.out w1 b1)
    have HC2 := Lib.hid (HP.out w1 b1)
    have HB1 := Lib.hid b1
    clear b1
    go_wp2_with fail
    refine HC.out.mono ?_
    rintro e w' ⟨rfl, rfl⟩
    go_wp2_with fail
    refine HC2.out.mono ?_
    rintro e w2 ⟨rfl, b2⟩
    have HB2 : Hid (Below w.heap.size w w2) := HB1.out.trans (b2.mono HB1.out.size)
    have HC3 := Lib.hid (HW.out w2 HB2.out)
    clear b2 HC HC2
    go_wp2_with fail
    refine HC3.out.mono ?_
    rintro e w' ⟨rfl, rfl⟩
    go_wp2_with fail
    go_ret
    exact ⟨rfl, HB2.out⟩

/-- Too many IDs. -/
theorem makes_many (a : Option Addr) (cap n : Nat) (m : Int) (ka : Option Addr) (kn kcap : Nat) (hkn : kn ≤ 70) (hk : 64 < kn) (w : World)
    (hsrc : ∀ w', Below w.heap.size w w' → Calls Try.prog 6 #[.slice a n cap] w' fun e w'' => e = .returned (.bool true) ∧ w' = w'')
    (hp : ∀ w', Below w.heap.size w w' → Calls Try.prog 7 #[.slice a n cap, .int .i64 m, .slice ka kn kcap] w' fun e w'' => e = .returned (.tuple #[.slice none 0 0, .int .i64 5]) ∧ Below w'.heap.size w' w'')
    (hwr : ∀ w', Below w.heap.size w w' → Calls Try.prog 8 #[.slice a n cap, .int .i64 m] w' fun e w'' => e = .returned (.int .i64 0) ∧ w' = w'') :
    Calls Try.prog 3 #[.slice a n cap, .int .i64 m, .slice ka kn kcap] w (TrueAnd w) := by
  have HAW := Lib.hid awake9_any
  have HSRC := Lib.hid hsrc
  have HP := Lib.hid hp
  have HW := Lib.hid hwr
  clear hsrc hp hwr
  have hd : ¬ (70 : Int) < (kn : Int) := by omega
  have hd2 : (64 : Int) < (kn : Int) := by omega
  go_enter Try.func3, Try.ntmps3
  go_wp2_with fail
  refine (HAW.out _).mono ?_
  rintro e w1 ⟨rfl, b1⟩
  have HC := Lib.hid (HSRC.out w1 b1)
  have HC2 := Lib.hid (HP.out w1 b1)
  have HB1 := Lib.hid b1
  clear b1
  go_wp2_with fail
  refine HC.out.mono ?_
  rintro e w' ⟨rfl, rfl⟩
  go_wp2_with fail
  refine HC2.out.mono ?_
  rintro e w2 ⟨rfl, b2⟩
  have HB2 : Hid (Below w.heap.size w w2) := HB1.out.trans (b2.mono HB1.out.size)
  have HC3 := Lib.hid (HW.out w2 HB2.out)
  clear b2 HC HC2
  go_wp2_with fail
  refine HC3.out.mono ?_
  rintro e w' ⟨rfl, rfl⟩
  go_wp2_with fail
  go_ret
  exact ⟨rfl, HB2.out⟩

set_option maxRecDepth 100000 in
set_option maxHeartbeats 2000000 in
theorem makes_good (a : Option Addr) (cap : Nat) (ls : Rws) (m : Nat) (ka : Option Addr) (kcap : Nat) (ks : List Nat) (w : World) (hs : Rs w.heap.size w a cap ls) (hk : Us w ka kcap ks) (h1 : 1 ≤ ls.length) (h64 : ls.length ≤ 64) (hm1 : 1 ≤ m) (hm2 : m ≤ 256) (hk64 : ks.length ≤ 64) (hb : srcB ls = true) (hg : goodB ls m = true) :
    Calls Try.prog 3 #[.slice a ls.length cap, .int .i64 (m : Int), .slice ka ks.length kcap] w (TrueAnd w) := by
  have HAW := Lib.hid awake9_any
  have HSRC : Hid (∀ w', Below w.heap.size w w' → Calls Try.prog 6 #[.slice a ls.length cap] w' fun e w'' => e = .returned (.bool true) ∧ w' = w'') := fun w' h => by
    have := sources_any _ a cap ls w' (hs.keep (Nat.le_refl _) (Keep.of_below h))
    rw [hb] at this
    exact this
  have HP : Hid (∀ w', Below w.heap.size w w' → Calls Try.prog 7 #[.slice a ls.length cap, .int .i64 (m : Int), .slice ka ks.length kcap] w' fun e w'' => Below w'.heap.size w' w'' ∧ ∃ g, e = .returned (.tuple #[.slice (some ⟨g, 0, none⟩) ks.length ks.length, .int .i64 0]) ∧ Rs w''.heap.size w'' (some ⟨g, 0, none⟩) ks.length (ks.map (idSym ls m))) := fun w' h =>
    (esymbols_any a cap ls m ka kcap ks w' ((hs.keep (Nat.le_refl _) (Keep.of_below h)).raise h.size) (hk.below h) h1 h64 hm1 hm2).mono fun e w'' ⟨hb2, hh⟩ => by
      rcases hh with ⟨_, _, hh⟩ | ⟨_, hh, _⟩ | ⟨hh, _⟩
      · exact ⟨hb2, hh⟩
      · omega
      · rw [hg] at hh; cases hh
  have HW : Hid (∀ w', Below w.heap.size w w' → Calls Try.prog 8 #[.slice a ls.length cap, .int .i64 (m : Int)] w' fun e w'' => e = .returned (.int .i64 0) ∧ w' = w'') := fun w' h => by
    have := wrong_in _ a cap ls m w' (hs.keep (Nat.le_refl _) (Keep.of_below h)) h1 h64 hm1 hm2
    rw [if_pos hg] at this
    exact this
  have HSY : Hid (∀ (w' : World) (id : Nat), Below w.heap.size w w' → id < 4294967296 → Calls Try.prog 9 #[.slice a ls.length cap, .int .i64 (m : Int), .int .u32 (id : Int)] w' fun e w'' => Below w'.heap.size w' w'' ∧ ∃ g, e = .returned (.tuple #[.slice (some ⟨g, 0, none⟩) m m, .int .i64 0]) ∧ Rw 0 w'' (some ⟨g, 0, none⟩) m (idSym ls m id)) := fun w' id h hid =>
    (esymbol_any a cap ls m id w' ((hs.keep (Nat.le_refl _) (Keep.of_below h)).raise h.size) h1 h64 hm1 hm2 hid).mono fun e w'' ⟨hb2, hh⟩ => by
      rcases hh with ⟨_, hh⟩ | ⟨hh, _⟩
      · exact ⟨hb2, hh⟩
      · rw [hg] at hh; cases hh
  have HRW : Hid (∀ (w' : World) (id : Nat), id < 4294967296 → Calls Try.prog 11 #[.int .i64 (ls.length : Int), .int .u32 (id : Int)] w' (RRowPost ls.length (rowN ls.length id) w')) := fun w' id hid => refRow_any ls.length id h1 h64 hid w'
  have HDS : Hid (∀ (w' : World) (id : Nat) (ra : Option Addr) (rc : Nat), Below w.heap.size w w' → Sl w' ra rc (rowN ls.length id) → Calls Try.prog 10 #[.slice a ls.length cap, .int .i64 (m : Int), .slice ra ls.length rc] w' fun e w'' => ∃ g, e = .returned (.slice (some ⟨g, 0, none⟩) m m) ∧ Rw w'.heap.size w'' (some ⟨g, 0, none⟩) m (idSym ls m id) ∧ Below w'.heap.size w' w'') := fun w' id ra rc h hsl => by
    have hrl := (rowN_ok ls.length id).1
    have := symbol_any w.heap.size a cap ls m ra rc (rowN ls.length id) w' h.size (hs.keep (Nat.le_refl _) (Keep.of_below h)) (by omega) hsl (by omega)
    rw [hrl] at this
    exact this
  have HSL : Hid (∀ id : Nat, (idSym ls m id).length = m) := fun id => (idSym_ok m id hs.byte).1
  have HQL : Hid ((ks.map (idSym ls m)).length = ks.length) := by show _ = _; rw [List.length_map]
  have HQE : Hid (∀ j (h : j < (ks.map (idSym ls m)).length) (h' : j < ks.length), (ks.map (idSym ls m))[j] = idSym ls m ks[j]) := fun j h h' => by simp
  generalize ks.map (idSym ls m) = L at *
  generalize rowN ls.length = RN at *
  generalize idSym ls m = F at *
  have HK := Lib.hid hk
  have hd : ¬ (70 : Int) < (ks.length : Int) := by omega
  have hd2 : ¬ (64 : Int) < (ks.length : Int) := by omega
  have hne : ((ks.length : Int) != (ks.length : Int)) = false := by simp
  clear hs hb hg hk
  go_enter Try.func3, Try.ntmps3
  go_wp2_with fail
  refine (HAW.out _).mono ?_
  rintro e w1 ⟨rfl, b1⟩
  have HC := Lib.hid (HSRC.out w1 b1)
  have HC2 := Lib.hid (HP.out w1 b1)
  have HB1 := Lib.hid b1
  clear b1
  go_wp2_with fail
  refine HC.out.mono ?_
  rintro e w' ⟨rfl, rfl⟩
  go_wp2_with fail
  refine HC2.out.mono ?_
  rintro e w2 ⟨b2, g1, rfl, hr2⟩
  have HB2 : Hid (Below w.heap.size w w2) := HB1.out.trans (b2.mono HB1.out.size)
  have HR2 := Lib.hid hr2
  have HC3 := Lib.hid (HW.out w2 HB2.out)
  clear b2 hr2 HC HC2
  go_wp2_with fail
  refine HC3.out.mono ?_
  rintro e w' ⟨rfl, rfl⟩
  clear HC3 HW HP HSRC HAW
  go_wp2_with fail
  clear hne hd hd2
  go_loopw [64] (fun i wr => ∃ j : Nat, j ≤ ks.length ∧ i = .int .i64 j ∧ Hid (Below w2.heap.size w2 wr)) (fun i _ => ks.length - (intOf i).toNat)
  case atStart => exact ⟨0, by omega, rfl, Below.refl _ _⟩
  case round =>
    obtain ⟨j, hj, rfl, HB⟩ := hrel
    have HBW : Hid (Below w.heap.size w wr) := HB2.out.trans (HB.out.mono HB2.out.size)
    by_cases hlt : j < ks.length
    · have hjL : j < L.length := by rw [HQL.out]; exact hlt
      obtain ⟨bk, ok, rfl, hbk, hck⟩ := (HK.out.below HBW.out).some hlt
      have hid : ks[j] < 4294967296 := HK.out.rng _ (List.getElem_mem hlt)
      obtain ⟨bl, ol, el, hbl, hrl⟩ := HR2.out.some hjL
      cases el
      obtain ⟨al, cl, x3, rl⟩ := hrl j hjL
      rw [HQE.out j hjL hlt] at x3 rl
      obtain ⟨id, hide⟩ : ∃ id, ks[j] = id := ⟨_, rfl⟩
      rw [hide] at hck hid x3 rl
      rw [HSL.out, Nat.zero_add] at x3
      have HC := Lib.hid (HSY.out wr id HBW.out hid)
      have i1 : (0 : Int) ≤ (j : Int) := by omega
      have i2 : (j : Int) < (ks.length : Int) := by omega
      have X3 : Hid (w2.cell? ⟨g1, j, none⟩ = some (.slice al m cl)) := x3
      have RL := Lib.hid rl
      have HBL := Lib.hid hbl
      have HBK := Lib.hid hbk
      have CK := Lib.hid hck
      clear hide hrl x3 rl
      go_wp2_with fail
      refine HC.out.mono ?_
      rintro e w3 ⟨b3, g3, rfl, hr3⟩
      have HB3 : Hid (Below w2.heap.size w2 w3) := HB.out.trans (b3.mono HB.out.size)
      have HBW3 : Hid (Below w.heap.size w w3) := HBW.out.trans (b3.mono HBW.out.size)
      have y3 := cell_up ((HB3.out.cell (p := ⟨g1, j, none⟩) HBL.out).trans X3.out)
      have y5 := cell_up ((b3.cell (p := ⟨bk, ok + j, none⟩) HBK.out).trans CK.out)
      have sl := conv_class (RL.out.sl.below HB3.out) (HSL.out id)
      have s3 := conv_class hr3.sl (HSL.out id)
      clear hck b3 hr3 HC
      go_wp2_with fail
      refine grow_begin (by kernel_rfl) ?_
      refine grow_take (by kernel_rfl) [0, 1, 2, 3, 4, 5, 6, 7, 8, 9, 10, 11, 12, 13, 14, 15, 16, 17, 18, 19, 20, 21, 22] 5 _ _ (by kernel_rfl) ?_
      simp only [opsAt, List.getElem?_toArray, List.getElem?_cons_succ, List.getElem?_cons_zero]
      repeat (first | go_big_quiet_step (fail) | quiet_step (fail))
      refine wpQuiet_nil ?_
      intro w6 hw6
      have hb6 := below_of_up hw6
      have HB6 : Hid (Below w3.heap.size w3 w6) := hb6
      have HC6 := Lib.hid (HRW.out w6 id hid)
      clear y3 y5 sl s3
      refine grow_one 23 (by kernel_rfl) hw6 (fun K hK => ?_)
      simp only [stepOf, List.getElem?_toArray, List.getElem?_cons_succ, List.getElem?_cons_zero]
      go_simp
      go_at_call 11
      refine HC6.out.mono ?_
      rintro e w7 ⟨g7, c7, rfl, hr7, hb7⟩
      refine hK.out _ _ hb7 ?_
      clear hK K HC6
      have HB7 : Hid (Below w3.heap.size w3 w7) := HB6.out.trans (hb7.mono HB6.out.size)
      have HR7 := Lib.hid hr7
      clear hr7 hb7
      intro w8 hw8
      have hb8 := below_of_up hw8
      have HB8 : Hid (Below w3.heap.size w3 w8) := HB7.out.trans (hb8.mono HB7.out.size)
      have HC8 := Lib.hid (HDS.out w8 id _ _ (HBW3.out.trans (HB8.out.mono HBW3.out.size)) (HR7.out.below hb8))
      refine grow_one 24 (by kernel_rfl) hw8 (fun K hK => ?_)
      simp only [stepOf, List.getElem?_toArray, List.getElem?_cons_succ, List.getElem?_cons_zero]
      go_simp
      go_at_call 10
      refine HC8.out.mono ?_
      rintro e w9 ⟨g9, rfl, hr9, hb9⟩
      refine hK.out _ _ hb9 ?_
      clear hK K
      have s9 := conv_class hr9.sl (HSL.out id)
      have HB9 : Hid (Below w3.heap.size w3 w9) := HB8.out.trans (hb9.mono HB8.out.size)
      clear hr9 hb9 HC8
      refine grow_take (by kernel_rfl) [25, 26, 27] 0 _ _ (by kernel_rfl) ?_
      simp only [opsAt, List.getElem?_toArray, List.getElem?_cons_succ, List.getElem?_cons_zero]
      repeat (first | go_big_quiet_step (fail) | quiet_step (fail))
      refine wpQuiet_nil ?_
      intro w10 hw10
      have hb10 := below_of_up hw10
      refine grow_done (by kernel_rfl) ?_
      have HB10 : Hid (Below w2.heap.size w2 w10) := HB3.out.trans ((HB9.out.trans (hb10.mono HB9.out.size)).mono HB3.out.size)
      clear s9 hb10 hw10 hb8 hw8 hb6 hw6
      go_wp2_with fail
      go_roundw
      case rel => exact ⟨j + 1, by omega, by go_num, HB10⟩
      case measure => simp [intOf]; omega
    · obtain rfl : j = ks.length := by omega
      go_wp2_with fail
      go_ret
      exact ⟨rfl, HBW.out⟩

theorem encodeMakes_walk (a : Option Addr) (cap : Nat) (ls : Rws) (m : Int) (ka : Option Addr) (kcap : Nat) (ks : List Nat) (w : World) (hs : Rs w.heap.size w a cap ls) (hk : Us w ka kcap ks) :
    Calls Try.prog 3 #[.slice a ls.length cap, .int .i64 m, .slice ka ks.length kcap] w (TrueAnd w) := by
  by_cases hb : srcB ls = true
  · by_cases hk70 : 70 < ks.length
    · exact makes_big a cap ls m ka ks.length kcap w hs hk.lt (.inr hk70)
    · have hsrc : ∀ w', Below w.heap.size w w' → Calls Try.prog 6 #[.slice a ls.length cap] w' fun e w'' => e = .returned (.bool true) ∧ w' = w'' := fun w' h => by
        have := sources_any _ a cap ls w' (hs.keep (Nat.le_refl _) (Keep.of_below h))
        rw [hb] at this
        exact this
      have hn := (srcB_iff.1 hb).1
      by_cases hm : m < 1 ∨ 256 < m
      · exact makes_bad a cap _ m 1 ka _ kcap (by omega) (.inl rfl) w hsrc (fun w' _ => (esymbols_out a cap _ (by omega) m ka _ kcap 1 (.inl ⟨hm, rfl⟩) w').mono fun _ _ ⟨h1, h2⟩ => ⟨h1, by rw [← h2]; exact Below.refl _ _⟩) (fun w' _ => wrong_out a cap _ (by omega) m 1 (.inl ⟨hm, rfl⟩) w')
      · by_cases hl : ls.length < 1 ∨ 64 < ls.length
        · have h : ((m < 1 ∨ 256 < m) ∧ (5 : Int) = 1) ∨ (1 ≤ m ∧ m ≤ 256 ∧ (ls.length < 1 ∨ 64 < ls.length) ∧ (5 : Int) = 5) := .inr ⟨by omega, by omega, hl, rfl⟩
          exact makes_bad a cap _ m 5 ka _ kcap (by omega) (.inr (.inr rfl)) w hsrc (fun w' _ => (esymbols_out a cap _ (by omega) m ka _ kcap 5 h w').mono fun _ _ ⟨h1, h2⟩ => ⟨h1, by rw [← h2]; exact Below.refl _ _⟩) (fun w' _ => wrong_out a cap _ (by omega) m 5 h w')
        · obtain ⟨k, rfl⟩ : ∃ k : Nat, m = k := ⟨m.toNat, by omega⟩
          have hsy : ∀ w', Below w.heap.size w w' → Calls Try.prog 7 #[.slice a ls.length cap, .int .i64 (k : Int), .slice ka ks.length kcap] w' (ESymsPost ls k ks w') := fun w' h => esymbols_any a cap ls k ka kcap ks w' ((hs.keep (Nat.le_refl _) (Keep.of_below h)).raise h.size) (hk.below h) (by omega) (by omega) (by omega) (by omega)
          have hwr : ∀ w', Below w.heap.size w w' → Calls Try.prog 8 #[.slice a ls.length cap, .int .i64 (k : Int)] w' fun e w'' => e = .returned (.int .i64 (if goodB ls k = true then 0 else 3)) ∧ w' = w'' := fun w' h => wrong_in _ a cap ls k w' (hs.keep (Nat.le_refl _) (Keep.of_below h)) (by omega) (by omega) (by omega) (by omega)
          by_cases hg : goodB ls k = true
          · simp only [hg, if_true] at hwr
            by_cases h64 : 64 < ks.length
            · refine makes_many a cap _ k ka _ kcap (by omega) h64 w hsrc (fun w' h => (hsy w' h).mono fun e w'' ⟨h1, h2⟩ => ?_) hwr
              rcases h2 with ⟨_, h2, _⟩ | ⟨_, _, h2⟩ | ⟨h2, _⟩
              · omega
              · exact ⟨h2, h1⟩
              · rw [hg] at h2; cases h2
            · exact makes_good a cap ls k ka kcap ks w hs hk (by omega) (by omega) (by omega) (by omega) (by omega) hb hg
          · simp only [if_neg hg] at hwr
            refine makes_bad a cap _ k 3 ka _ kcap (by omega) (.inr (.inl rfl)) w hsrc (fun w' h => (hsy w' h).mono fun e w'' ⟨h1, h2⟩ => ?_) hwr
            rcases h2 with ⟨h2, _⟩ | ⟨h2, _⟩ | ⟨_, h2⟩
            · exact absurd h2 hg
            · exact absurd h2 hg
            · exact ⟨h2, h1⟩
  · exact makes_big a cap ls m ka ks.length kcap w hs hk.lt (.inl (by simpa using hb))
end Go.Proofs.Ytgfcpneblkleiaa
