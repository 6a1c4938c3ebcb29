/-
  The law's Sources and Wrong; what package precode refuses; PrecodeParities, walked.
-/
import Derived.Test.YtpbnfbljjkofhaaPreLawA
import Derived.Test.YtpbnfbljjkofhaaPrePar
namespace Go.Proofs.Ytpbnfbljjkofhaa
open Go.ChangeShapes Go.WideShapes Go.ChangeAt Go.RowKit Go.Joins
set_option linter.unusedVariables false

theorem ret_bool {a b : Bool} (h : a = b) : Ending.returned (.bool a) = .returned (.bool b) := by rw [h]
def srcB (ls : Rws) : Bool := decide (ls.length ≤ 70) && ls.all fun x => decide (x.length ≤ 300)
theorem srcB_iff {ls : Rws} : srcB ls = true ↔ ls.length ≤ 70 ∧ ∀ x ∈ ls, x.length ≤ 300 := by simp [srcB]

set_option maxHeartbeats 400000 in
theorem sources_any (B : Nat) (a : Option Addr) (cap : Nat) (ls : Rws) (w : World) (hs : Rs B w a cap ls) :
    Calls Try.prog 9 #[.slice a ls.length cap] w fun e w' => e = .returned (.bool (srcB ls)) ∧ w = w' := by
  have HS := Lib.hid hs
  have hlm := hs.lt
  clear hs
  go_enter Try.func9, Try.ntmps9
  go_wp2_with fail
  go_loop [6] (fun i => ∃ k : Nat, k ≤ ls.length ∧ i = .int .i64 k ∧ Hid (∀ j (h : j < ls.length), j < k → j < 70 ∧ ls[j].length ≤ 300)) (fun i => ls.length - (intOf i).toNat)
  case atStart => exact ⟨0, by omega, rfl, fun j _ hj => by omega⟩
  case round =>
    obtain ⟨k, hk, rfl, HT⟩ := hrel
    by_cases hlt : k < ls.length
    · obtain ⟨b, off, rfl, hB, hr⟩ := HS.out.some hlt
      obtain ⟨ai, ci, hck, hrw⟩ := hr k hlt
      have hsl := hrw.sl.lt
      by_cases h40 : 70 ≤ k
      · have HF : Hid (srcB ls = false) := by
          show _ = _
          rw [Bool.eq_false_iff]
          intro h
          have := (srcB_iff.1 h).1
          omega
        have hd : decide ((70 : Int) ≤ (k : Int)) = true := by simp; omega
        clear hr hrw
        go_wp2_with fail
        go_ret
        exact ⟨ret_bool HF.out.symm, rfl⟩
      · have hd : decide ((70 : Int) ≤ (k : Int)) = false := by simp; omega
        have hd2 : ¬ (70 : Int) ≤ (k : Int) := by omega
        by_cases hbig : 300 < ls[k].length
        · have HF : Hid (srcB ls = false) := by
            show _ = _
            rw [Bool.eq_false_iff]
            intro h
            have := (srcB_iff.1 h).2 _ (List.getElem_mem hlt)
            omega
          generalize ls[k] = x at *
          have hd3 : (300 : Int) < (x.length : Int) := by omega
          clear hr hrw
          go_wp2_with fail
          go_ret
          exact ⟨ret_bool HF.out.symm, rfl⟩
        · have HX : Hid (∀ j (h : j < ls.length), j < k + 1 → j < 70 ∧ ls[j].length ≤ 300) := fun j h hj => by
            by_cases e : j = k
            · subst e; exact ⟨by omega, by omega⟩
            · exact HT.out j h (by omega)
          generalize ls[k] = x at *
          have hd3 : ¬ (300 : Int) < (x.length : Int) := by omega
          clear hr hrw
          go_wp2_with fail
          go_round
          case rel => exact ⟨k + 1, by omega, by go_num, HX⟩
          case measure => simp [intOf]; omega
    · obtain rfl : k = ls.length := by omega
      have HF : Hid (srcB ls = true) := by
        show _ = _
        rw [srcB_iff]
        refine ⟨?_, fun x hx => ?_⟩
        · rcases Nat.lt_or_ge 70 ls.length with h | h
          · have := (HT.out 70 h h).1; omega
          · exact h
        · obtain ⟨i, hi, rfl⟩ := List.getElem_of_mem hx
          exact (HT.out i hi hi).2
      go_wp2_with fail
      go_ret
      exact ⟨ret_bool HF.out.symm, rfl⟩


set_option maxHeartbeats 400000 in
theorem wrong_in (B : Nat) (a : Option Addr) (cap : Nat) (ls : Rws) (m : Nat) (w : World) (hs : Rs B w a cap ls) (h1 : 1 ≤ ls.length) (h64 : ls.length ≤ 64) (hm1 : 1 ≤ m) (hm2 : m ≤ 256) :
    Calls Try.prog 11 #[.slice a ls.length cap, .int .i64 (m : Int)] w fun e w' => e = .returned (.int .i64 (if goodB ls m = true then 0 else 3)) ∧ w = w' := by
  have HS := Lib.hid hs
  have d1 : ¬ ((m : Int) < 1) := by omega
  have d2 : ¬ ((256 : Int) < (m : Int)) := by omega
  have d3 : ¬ ((ls.length : Int) < 1) := by omega
  have d4 : ¬ ((64 : Int) < (ls.length : Int)) := by omega
  clear hs
  go_enter Try.func11, Try.ntmps11
  go_wp2_with fail
  go_loop [24] (fun i => ∃ k : Nat, k ≤ ls.length ∧ i = .int .i64 k ∧ Hid (∀ j (h : j < ls.length), j < k → ls[j].length ≤ m)) (fun i => ls.length - (intOf i).toNat)
  case atStart => exact ⟨0, by omega, rfl, fun j _ hj => by omega⟩
  case round =>
    obtain ⟨k, hk, rfl, HT⟩ := hrel
    by_cases hlt : k < ls.length
    · obtain ⟨b, off, rfl, hB, hr⟩ := HS.out.some hlt
      obtain ⟨ai, ci, hck, hrw⟩ := hr k hlt
      have hsl := hrw.sl.lt
      have i1 : (0 : Int) ≤ (k : Int) := by omega
      have i2 : (k : Int) < (ls.length : Int) := by omega
      by_cases hbig : m < ls[k].length
      · have HF : Hid (¬ goodB ls m = true) := fun h => by
          have := goodB_iff.1 h _ (List.getElem_mem hlt)
          omega
        generalize ls[k] = x at *
        have hd3 : (m : Int) < (x.length : Int) := by omega
        clear hr hrw
        go_wp2_with fail
        go_ret
        exact ⟨by first | rfl | (rw [if_neg HF.out]; rfl), rfl⟩
      · have HX : Hid (∀ j (h : j < ls.length), j < k + 1 → ls[j].length ≤ m) := fun j h hj => by
          by_cases e : j = k
          · subst e; omega
          · exact HT.out j h (by omega)
        generalize ls[k] = x at *
        have hd3 : ¬ (m : Int) < (x.length : Int) := by omega
        clear hr hrw
        go_wp2_with fail
        go_round
        case rel => exact ⟨k + 1, by omega, by go_num, HX⟩
        case measure => simp [intOf]; omega
    · obtain rfl : k = ls.length := by omega
      have HF : Hid (goodB ls m = true) := goodB_iff.2 fun x hx => by
        obtain ⟨i, hi, rfl⟩ := List.getElem_of_mem hx
        exact HT.out i hi hi
      go_wp2_with fail
      go_ret
      exact ⟨by first | rfl | (rw [if_pos HF.out]; rfl), rfl⟩

/-- What is refused for its size or its number. -/
theorem wrong_out (a : Option Addr) (cap n : Nat) (hn : n ≤ 1000) (m : Int) (q : Int) (h : ((m < 1 ∨ 256 < m) ∧ q = 1) ∨ (1 ≤ m ∧ m ≤ 256 ∧ (n < 1 ∨ 64 < n) ∧ q = 5)) (w : World) :
    Calls Try.prog 11 #[.slice a n cap, .int .i64 m] w fun e w' => e = .returned (.int .i64 q) ∧ w = w' := by
  rcases h with ⟨h | h, rfl⟩ | ⟨h1, h2, h | h, rfl⟩
  · go_enter Try.func11, Try.ntmps11
    go_wp2
    go_ret
    exact ⟨rfl, rfl⟩
  · have d : ¬ m < 1 := by omega
    go_enter Try.func11, Try.ntmps11
    go_wp2
    go_ret
    exact ⟨rfl, rfl⟩
  · have d1 : ¬ m < 1 := by omega
    have d2 : ¬ 256 < m := by omega
    have d3 : (n : Int) < 1 := by omega
    go_enter Try.func11, Try.ntmps11
    go_wp2
    go_ret
    exact ⟨rfl, rfl⟩
  · have d1 : ¬ m < 1 := by omega
    have d2 : ¬ 256 < m := by omega
    have d3 : ¬ (n : Int) < 1 := by omega
    have d4 : (64 : Int) < (n : Int) := by omega
    go_enter Try.func11, Try.ntmps11
    go_wp2
    go_ret
    exact ⟨rfl, rfl⟩
theorem parities_out (a : Option Addr) (cap n : Nat) (hn : n ≤ 1000) (m : Int) (q : Int) (h : ((m < 1 ∨ 256 < m) ∧ q = 1) ∨ (1 ≤ m ∧ m ≤ 256 ∧ (n < 1 ∨ 64 < n) ∧ q = 5)) (w : World) :
    Calls Try.prog 10 #[.slice a n cap, .int .i64 m] w fun e w' => e = .returned (.tuple #[.slice none 0 0, .int .i64 q]) ∧ w = w' := by
  rcases h with ⟨h | h, rfl⟩ | ⟨h1, h2, h | h, rfl⟩
  · go_enter Try.func10, Try.ntmps10
    go_wp2
    go_ret2
    exact ⟨rfl, rfl⟩
  · have d : ¬ m < 1 := by omega
    go_enter Try.func10, Try.ntmps10
    go_wp2
    go_ret2
    exact ⟨rfl, rfl⟩
  · have d1 : ¬ m < 1 := by omega
    have d2 : ¬ 256 < m := by omega
    have d3 : (n : Int) < 1 := by omega
    go_enter Try.func10, Try.ntmps10
    go_wp2
    go_ret2
    exact ⟨rfl, rfl⟩
  · have d1 : ¬ m < 1 := by omega
    have d2 : ¬ 256 < m := by omega
    have d3 : ¬ (n : Int) < 1 := by omega
    have d4 : (64 : Int) < (n : Int) := by omega
    go_enter Try.func10, Try.ntmps10
    go_wp2
    go_ret2
    exact ⟨rfl, rfl⟩

theorem law_big (a : Option Addr) (cap : Nat) (ls : Rws) (m : Int) (w : World) (hs : Rs w.heap.size w a cap ls) (hb : srcB ls = false) :
    Calls Try.prog 4 #[.slice a ls.length cap, .int .i64 m] w (TrueAnd w) := by
  have HAW := Lib.hid awake_any
  have hsrc := sources_any _ a cap ls w hs
  rw [hb] at hsrc
  have HSRC := Lib.hid hsrc
  have HB0 := Lib.hid (Below.refl w.heap.size w)
  clear hs hb hsrc
  go_enter Try.func4, Try.ntmps4
  go_wp2_with (first | (go_at_call 5; refine (HAW.out _).mono ?_; rintro e w' ⟨rfl, rfl⟩) | (go_at_call 9; refine HSRC.out.mono ?_; rintro e w' ⟨rfl, rfl⟩))
  go_ret
  exact ⟨rfl, HB0.out⟩

/-- Refused for one thing: the law sees the same. -/
theorem law_bad (a : Option Addr) (cap n : Nat) (hn : n ≤ 1000) (m q : Int) (hq : q = 1 ∨ q = 3 ∨ q = 5) (w : World)
    (hsrc : Calls Try.prog 9 #[.slice a n cap] w fun e w' => e = .returned (.bool true) ∧ w = w')
    (hp : Calls Try.prog 10 #[.slice a n cap, .int .i64 m] w fun e w' => e = .returned (.tuple #[.slice none 0 0, .int .i64 q]) ∧ Below w.heap.size w w')
    (hwr : ∀ w', Below w.heap.size w w' → Calls Try.prog 11 #[.slice a n cap, .int .i64 m] w' fun e w'' => e = .returned (.int .i64 q) ∧ w' = w'') :
    Calls Try.prog 4 #[.slice a n cap, .int .i64 m] w (TrueAnd w) := by
  have HAW := Lib.hid awake_any
  have HSRC := Lib.hid hsrc
  have HP := Lib.hid hp
  have HW := Lib.hid hwr
  clear hsrc hp hwr
  rcases hq with rfl | rfl | rfl
  all_goals
    go_enter Try.func4, Try.ntmps4
    go_wp2_with (first | (go_at_call 5; refine (HAW.out _).mono ?_; rintro e w' ⟨rfl, rfl⟩) | (go_at_call 9; refine HSRC.out.mono ?_; rintro e w' ⟨rfl, rfl⟩))
    refine HP.out.mono ?_
    rintro e w1 ⟨rfl, hb1⟩
    have HB1 := Lib.hid hb1
    have HW1 := Lib.hid (HW.out w1 hb1)
    clear hb1
    go_wp2_with (go_at_call 11; refine HW1.out.mono ?_; rintro e w' ⟨rfl, rfl⟩)
    go_ret
    exact ⟨rfl, HB1.out⟩

set_option maxRecDepth 100000 in
set_option maxHeartbeats 2000000 in
theorem law_good (a : Option Addr) (cap : Nat) (ls : Rws) (m : Nat) (w : World) (hs : Rs w.heap.size w a cap ls) (h1 : 1 ≤ ls.length) (h64 : ls.length ≤ 64) (hm1 : 1 ≤ m) (hm2 : m ≤ 256) (hb : srcB ls = true) (hg : goodB ls m = true) :
    Calls Try.prog 4 #[.slice a ls.length cap, .int .i64 (m : Int)] w (TrueAnd w) := by
  have HAW := Lib.hid awake_any
  have hsrc := sources_any _ a cap ls w hs
  rw [hb] at hsrc
  have HSRC := Lib.hid hsrc
  have HS := Lib.hid hs
  have HP := Lib.hid (parities_any a cap ls m w hs h1 h64 hm1 hm2)
  have HW : Hid (∀ w', Below w.heap.size w w' → Calls Try.prog 11 #[.slice a ls.length cap, .int .i64 (m : Int)] w' fun e w'' => e = .returned (.int .i64 0) ∧ w' = w'') := fun w' hb' => by
    have := wrong_in _ a cap ls m w' (hs.keep (Nat.le_refl _) (Keep.of_below hb')) h1 h64 hm1 hm2
    rw [if_pos hg] at this
    exact this
  have HREF := Lib.hid (refPar_any ls.length h1 h64)
  have HSY : Hid (∀ w', Below w.heap.size w w' → ∀ ra rc row, row.length = ls.length → Sl w' ra rc row → Calls Try.prog 12 #[.slice a ls.length cap, .int .i64 (m : Int), .slice ra ls.length rc] w' (SymPost ls m row w')) := fun w' hb' ra rc row hl hsl => by
    have := symbol_any w.heap.size a cap ls m ra rc row w' hb'.size (hs.keep (Nat.le_refl _) (Keep.of_below hb')) (by omega) hsl (by omega)
    rw [hl] at this
    exact this
  have HSL : Hid (∀ r, (symTo ls m r ls.length).length = m) := fun r => (symTo_ok hs.byte ls.length (Nat.le_refl _)).1
  have HPL := Lib.hid (parRows_len ls.length)
  have HQL : Hid ((parSyms ls m).length = spN ls.length + 2) := by show _ = _; rw [parSyms, List.length_map, parRows_len]
  have HQE : Hid (∀ j (h : j < (parSyms ls m).length) (h' : j < (parRows ls.length).length), (parSyms ls m)[j] = symTo ls m (parRows ls.length)[j] ls.length) := fun j h h' => by simp [parSyms]
  have HRB : Hid (∀ r ∈ parRows ls.length, r.length = ls.length) := fun r hr => by
    obtain ⟨j, _, rfl⟩ := List.mem_map.1 hr
    exact parRow_len _ j
  have HPP : Hid (∀ e w', ParPost ls m w e w' → Below w.heap.size w w' ∧ ∃ g, e = .returned (.tuple #[.slice (some ⟨g, 0, none⟩) (spN ls.length + 2) (spN ls.length + 2), .int .i64 0]) ∧ Rs w'.heap.size w' (some ⟨g, 0, none⟩) (spN ls.length + 2) (parSyms ls m)) := fun e w' h => by
    obtain ⟨h1, h2 | ⟨h2, _⟩⟩ := h
    · exact ⟨h1, h2.2⟩
    · rw [hg] at h2; cases h2
  have hsb := spN_bound h64
  generalize parSyms ls m = Q at *
  generalize parRows ls.length = P at *
  obtain ⟨N, hN⟩ : ∃ N, N = spN ls.length + 2 := ⟨_, rfl⟩
  rw [← hN] at HPL HQL HPP
  have hNb : N ≤ 11 := by omega
  have hne : ((N : Int) != (N : Int)) = false := by simp
  clear hN hsb hs hb hsrc hg
  go_enter Try.func4, Try.ntmps4
  go_wp2_with (first | (go_at_call 5; refine (HAW.out _).mono ?_; rintro e w' ⟨rfl, rfl⟩) | (go_at_call 9; refine HSRC.out.mono ?_; rintro e w' ⟨rfl, rfl⟩))
  refine HP.out.mono ?_
  intro e w1 hpp
  obtain ⟨hb1, g1, rfl, hr1⟩ := HPP.out e w1 hpp
  have HB1 := Lib.hid hb1
  have HR1 := Lib.hid hr1
  have HW1 := Lib.hid (HW.out w1 hb1)
  clear hpp hb1 hr1
  go_wp2_with (go_at_call 11; refine HW1.out.mono ?_; rintro e w' ⟨rfl, rfl⟩)
  refine (HREF.out w1).mono ?_
  rintro e w2 ⟨v, rfl, ho, hb2⟩
  obtain ⟨a2, c2, rfl, hr2⟩ := ho.rs
  rw [HPL.out]
  have HR2 := Lib.hid hr2
  have HB2 := Lib.hid hb2
  clear ho hr2 hb2
  go_wp2_with fail
  go_loopw [51] (fun i wr => ∃ j : Nat, j ≤ N ∧ i = .int .i64 j ∧ Hid (Below w2.heap.size w2 wr)) (fun i _ => N - (intOf i).toNat)
  case atStart => exact ⟨0, by omega, rfl, Below.refl _ _⟩
  case round =>
    obtain ⟨j, hj, rfl, HB⟩ := hrel
    by_cases hlt : j < N
    · have hjP : j < P.length := by rw [HPL.out]; exact hlt
      have hjQ : j < Q.length := by rw [HQL.out]; exact hlt
      obtain ⟨bl, ol, el, hbl, hrl⟩ := HR1.out.some hjQ
      cases el
      obtain ⟨al, cl, x3, rl⟩ := hrl j hjQ
      obtain ⟨bx, ox, rfl, hbx, hrx⟩ := HR2.out.some hjP
      obtain ⟨ax, cx, x5, rx⟩ := hrx j hjP
      have HB13 : Hid (Below w1.heap.size w1 wr) := HB2.out.trans (HB.out.mono HB2.out.size)
      have HB03 : Hid (Below w.heap.size w wr) := HB1.out.trans (HB13.out.mono HB1.out.size)
      have z3 := (HB13.out.cell (p := ⟨g1, 0 + j, none⟩) hbl).trans x3
      have z5 := (HB.out.cell (p := ⟨bx, ox + j, none⟩) hbx).trans x5
      have sl := conv_class (rl.sl.below HB13.out) rfl
      have HPJ := Lib.hid (HRB.out _ (List.getElem_mem hjP))
      have HSX := Lib.hid (rx.sl.below HB.out)
      rw [HQE.out j hjQ hjP] at z3 sl
      rw [HSL.out] at z3 sl
      rw [HPJ.out] at z5
      generalize P[j] = r at *
      rw [Nat.zero_add] at z3
      have y3 := cell_up z3
      have y5 := cell_up z5
      have hj0 : (0 : Int) ≤ (j : Int) := by omega
      have hjl : (j : Int) < (N : Int) := by omega
      clear hrx hrl rx rl x3 x5 z3 z5
      go_wp2_with fail
      refine grow_begin (by kernel_rfl) ?_
      refine grow_take (by kernel_rfl) [0, 1, 2, 3, 4, 5, 6, 7, 8, 9, 10] 3 _ _ (by kernel_rfl) ?_
      simp only [opsAt, List.getElem?_toArray, List.getElem?_cons_succ, List.getElem?_cons_zero]
      repeat (first | go_big_quiet_step (fail) | quiet_step (fail))
      refine wpQuiet_nil ?_
      intro w6 hw6
      have hb6 := below_of_up hw6
      have HB06 : Hid (Below w.heap.size w w6) := HB03.out.trans (hb6.mono HB03.out.size)
      have HC6 := Lib.hid (HSY.out w6 HB06.out ax cx r HPJ.out (HSX.out.below hb6))
      refine grow_one 11 (by kernel_rfl) hw6 (fun K hK => ?_)
      simp only [stepOf, List.getElem?_toArray, List.getElem?_cons_succ, List.getElem?_cons_zero]
      go_simp
      go_at_call 12
      refine HC6.out.mono ?_
      rintro e w7 ⟨g7, rfl, hr7, hb7⟩
      refine hK.out _ _ hb7 ?_
      clear hK K
      have s7 := conv_class hr7.sl (HSL.out r)
      have HB27 : Hid (Below w2.heap.size w2 w7) := HB.out.trans ((hb6.trans (hb7.mono hb6.size)).mono HB.out.size)
      clear hr7 hb7 HC6 y3 y5 sl hb6 hw6
      refine grow_take (by kernel_rfl) [12, 13] 0 _ _ (by kernel_rfl) ?_
      simp only [opsAt, List.getElem?_toArray, List.getElem?_cons_succ, List.getElem?_cons_zero]
      repeat (first | go_big_quiet_step (fail) | quiet_step (fail))
      refine wpQuiet_nil ?_
      intro w8 hw8
      have hb8 := below_of_up hw8
      refine grow_done (by kernel_rfl) ?_
      have HB8 : Hid (Below w2.heap.size w2 w8) := HB27.out.trans (hb8.mono HB27.out.size)
      clear s7 hb8 hw8
      go_wp2_with fail
      go_roundw
      case rel => exact ⟨j + 1, by omega, by go_num, HB8⟩
      case measure => simp [intOf]; omega
    · obtain rfl : N = j := by omega
      have hltz : ¬ (N : Int) < (N : Int) := by omega
      go_wp2_with fail
      go_ret
      exact ⟨rfl, HB1.out.trans ((HB2.out.trans (HB.out.mono HB2.out.size)).mono HB1.out.size)⟩

theorem precodeParities_walk (a : Option Addr) (cap : Nat) (ls : Rws) (m : Int) (w : World) (hs : Rs w.heap.size w a cap ls) :
    Calls Try.prog 4 #[.slice a ls.length cap, .int .i64 m] w (TrueAnd w) := by
  by_cases hb : srcB ls = true
  · have hsrc := sources_any _ a cap ls w hs
    rw [hb] at hsrc
    have hn := (srcB_iff.1 hb).1
    by_cases hm : m < 1 ∨ 256 < m
    · exact law_bad a cap _ (by omega) m 1 (.inl rfl) w hsrc ((parities_out a cap _ (by omega) m 1 (.inl ⟨hm, rfl⟩) w).mono fun _ _ ⟨h1, h2⟩ => ⟨h1, by rw [← h2]; exact Below.refl _ _⟩) (fun w' _ => wrong_out a cap _ (by omega) m 1 (.inl ⟨hm, rfl⟩) w')
    · by_cases hl : ls.length < 1 ∨ 64 < ls.length
      · have h : ((m < 1 ∨ 256 < m) ∧ (5 : Int) = 1) ∨ (1 ≤ m ∧ m ≤ 256 ∧ (ls.length < 1 ∨ 64 < ls.length) ∧ (5 : Int) = 5) := .inr ⟨by omega, by omega, hl, rfl⟩
        exact law_bad a cap _ (by omega) m 5 (.inr (.inr rfl)) w hsrc ((parities_out a cap _ (by omega) m 5 h w).mono fun _ _ ⟨h1, h2⟩ => ⟨h1, by rw [← h2]; exact Below.refl _ _⟩) (fun w' _ => wrong_out a cap _ (by omega) m 5 h w')
      · obtain ⟨k, rfl⟩ : ∃ k : Nat, m = k := ⟨m.toNat, by omega⟩
        by_cases hg : goodB ls k = true
        · exact law_good a cap ls k w hs (by omega) (by omega) (by omega) (by omega) hb hg
        · refine law_bad a cap _ (by omega) k 3 (.inr (.inl rfl)) w hsrc ((parities_any a cap ls k w hs (by omega) (by omega) (by omega) (by omega)).mono fun e w' ⟨h1, h2⟩ => ?_) (fun w' hb' => ?_)
          · rcases h2 with ⟨h2, _⟩ | ⟨_, h2⟩
            · exact absurd h2 hg
            · exact ⟨h2, h1⟩
          · have := wrong_in _ a cap ls k w' (hs.keep (Nat.le_refl _) (Keep.of_below hb')) (by omega) (by omega) (by omega) (by omega)
            rw [if_neg hg] at this
            exact this
  · exact law_big a cap ls m w hs (by simpa using hb)
end Go.Proofs.Ytpbnfbljjkofhaa
