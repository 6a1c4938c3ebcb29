/-
  EncodeSums, walked.
-/
import Derived.Test.YtgfcpneblkleiaaEncLawA
import Derived.Test.YtgfcpneblkleiaaTwo
import Derived.Deep.DeepCutAuto
import Derived.Deep.CutRange
namespace Go.Proofs.Ytgfcpneblkleiaa
open Go.ChangeShapes Go.WideShapes Go.ChangeAt Go.RowKit Go.Joins
set_option linter.unusedVariables false

theorem sums_big (a : Option Addr) (cap : Nat) (la : Rws) (b : Option Addr) (bcap : Nat) (lb : Rws) (N id c : Nat) (w : World) (hs : Rs w.heap.size w a cap la) (ht : Rs w.heap.size w b bcap lb) (hb : srcB la = false ∨ srcB lb = false) :
    Calls Try.prog 4 #[.slice a la.length cap, .slice b lb.length bcap, .int .u8 (N : Int), .int .u32 (id : Int), .int .u8 (c : Int)] w (TrueAnd w) := by
  have HAW := Lib.hid awake9_any
  have HSA : Hid (∀ w', Below w.heap.size w w' → Calls Try.prog 6 #[.slice a la.length cap] w' fun e w'' => e = .returned (.bool (srcB la)) ∧ w' = w'') := fun w' h => sources_any _ a cap la w' (hs.keep (Nat.le_refl _) (Keep.of_below h))
  have HSB : Hid (∀ w', Below w.heap.size w w' → Calls Try.prog 6 #[.slice b lb.length bcap] w' fun e w'' => e = .returned (.bool (srcB lb)) ∧ w' = w'') := fun w' h => sources_any _ b bcap lb w' (ht.keep (Nat.le_refl _) (Keep.of_below h))
  clear hs ht
  generalize srcB la = A1 at *
  generalize srcB lb = B1 at *
  cases A1
  · clear hb HSB
    go_enter Try.func4, Try.ntmps4
    go_wp2_with fail
    refine (HAW.out _).mono ?_
    rintro e w1 ⟨rfl, b1⟩
    have HC := Lib.hid (HSA.out w1 b1)
    have HB1 := Lib.hid b1
    clear b1
    go_wp2_with fail
    refine HC.out.mono ?_
    rintro e w' ⟨rfl, rfl⟩
    go_wp2_with fail
    refine (HAW.out _).mono ?_
    rintro e w2 ⟨rfl, b2⟩
    have HB2 : Hid (Below w.heap.size w w2) := HB1.out.trans (b2.mono HB1.out.size)
    clear b2
    go_wp2_with fail
    go_ret
    exact ⟨rfl, HB2.out⟩
  · have hB : B1 = false := by simpa using hb
    subst hB
    clear hb
    go_enter Try.func4, Try.ntmps4
    go_wp2_with fail
    refine (HAW.out _).mono ?_
    rintro e w1 ⟨rfl, b1⟩
    have HC := Lib.hid (HSA.out w1 b1)
    have HC2 := Lib.hid (HSB.out w1 b1)
    have HB1 := Lib.hid b1
    clear b1
    go_wp2_with fail
    refine HC.out.mono ?_
    rintro e w' ⟨rfl, rfl⟩
    go_wp2_with fail
    refine HC2.out.mono ?_
    rintro e w' ⟨rfl, rfl⟩
    go_wp2_with fail
    refine (HAW.out _).mono ?_
    rintro e w2 ⟨rfl, b2⟩
    have HB2 : Hid (Below w.heap.size w w2) := HB1.out.trans (b2.mono HB1.out.size)
    clear b2
    go_wp2_with fail
    go_ret
    exact ⟨rfl, HB2.out⟩

/-- So many bytes of a source. -/
def cutF (n : Nat) (x : List Nat) : List Nat := fillN (x.take (min x.length n)) n
theorem cutF_len (n : Nat) (x : List Nat) : (cutF n x).length = n := fillN_len _ _
theorem cutF_byte (n : Nat) {x : List Nat} (h : IsByte x) : IsByte (cutF n x) := fillN_byte (fun n hn => h n (List.mem_of_mem_take hn)) _
def cutRs (n : Nat) (ls : Rws) (j : Nat) : Rws := (ls.take j).map (cutF n)
theorem cutRs_len (n : Nat) (ls : Rws) {j : Nat} (h : j ≤ ls.length) : (cutRs n ls j).length = j := by simp [cutRs]; omega
theorem cutRs_next (n : Nat) (ls : Rws) {j : Nat} (h : j < ls.length) : cutRs n ls (j + 1) = cutRs n ls j ++ [cutF n ls[j]] := by
  unfold cutRs
  rw [List.take_succ_eq_append_getElem h, List.map_append]; rfl
theorem cutRs_ok (n : Nat) {ls : Rws} (hb : ∀ x ∈ ls, IsByte x) (j : Nat) : ∀ x ∈ cutRs n ls j, x.length = n ∧ IsByte x := fun x hx => by
  obtain ⟨y, hy, rfl⟩ := List.mem_map.1 hx
  exact ⟨cutF_len n y, cutF_byte n (hb y (List.mem_of_mem_take hy))⟩
theorem good_all {ls : Rws} {m : Nat} (h : ∀ x ∈ ls, x.length = m) : goodB ls m = true := goodB_iff.2 fun x hx => by rw [h x hx]; exact Nat.le_refl _

theorem addsN_ok {x y : Rws} {n c : Nat} (h1 : ∀ p ∈ x, p.length = n ∧ IsByte p) (h2 : ∀ p ∈ y, p.length = n ∧ IsByte p) : ∀ p ∈ addsN x y c, p.length = n ∧ IsByte p := fun p hp => by
  obtain ⟨i, hi, rfl⟩ := List.getElem_of_mem hp
  have hi2 : i < min x.length y.length := by simpa [addsN] using hi
  have hx : i < x.length := by omega
  have hy : i < y.length := by omega
  rw [addsN_get hi hx hy]
  obtain ⟨a1, a2⟩ := h1 _ (List.getElem_mem hx)
  obtain ⟨b1, b2⟩ := h2 _ (List.getElem_mem hy)
  exact ⟨by rw [plusN_len _ _ _ (by omega), a1], plusN_byte _ _ _ a2 b2⟩
theorem sums_sym {x y : Rws} {m k c id : Nat} (hc : c < 256) (hx : x.length = k) (hy : y.length = k) (h1 : ∀ p ∈ x, p.length = m ∧ IsByte p) (h2 : ∀ p ∈ y, p.length = m ∧ IsByte p) :
    idSym (addsN x y c) m id = plusN (idSym x m id) (idSym y m id) c := by
  unfold idSym
  rw [addsN_len c hx hy, hx, hy]
  exact sym_adds hc (rowN_ok k id).2 hx hy h1 h2 k (Nat.le_refl _)
theorem esym_at {W : World} (a : Option Addr) (cap k : Nat) (ls : Rws) (n id : Nat) (hl : ls.length = k) (hs : Rs W.heap.size W a cap ls) (h1 : 1 ≤ k) (h64 : k ≤ 64) (hm1 : 1 ≤ n) (hm2 : n ≤ 256) (hid : id < 4294967296) (hg : goodB ls n = true) (w' : World) (h : Below W.heap.size W w') :
    Calls Try.prog 9 #[.slice a k cap, .int .i64 (n : Int), .int .u32 (id : Int)] w' fun e w'' => Below w'.heap.size w' w'' ∧ ∃ g, e = .returned (.tuple #[.slice (some ⟨g, 0, none⟩) n n, .int .i64 0]) ∧ Rw 0 w'' (some ⟨g, 0, none⟩) n (idSym ls n id) := by
  subst hl
  refine (esymbol_any a cap ls n id w' ((hs.keep (Nat.le_refl _) (Keep.of_below h)).raise h.size) h1 h64 hm1 hm2 hid).mono fun e w'' ⟨b, h⟩ => ?_
  rcases h with ⟨_, h⟩ | ⟨h, _⟩
  · exact ⟨b, h⟩
  · rw [hg] at h; cases h

set_option maxRecDepth 100000 in
set_option maxHeartbeats 20000000 in
theorem sums_main (a : Option Addr) (cap : Nat) (la : Rws) (b : Option Addr) (bcap : Nat) (lb : Rws) (N id c : Nat) (hN : N ≤ 255) (hid : id ≤ 4294967295) (hc : c ≤ 255) (w : World) (hs : Rs w.heap.size w a cap la) (ht : Rs w.heap.size w b bcap lb) (hb1 : srcB la = true) (hb2 : srcB lb = true) :
    Calls Try.prog 4 #[.slice a la.length cap, .slice b lb.length bcap, .int .u8 (N : Int), .int .u32 (id : Int), .int .u8 (c : Int)] w (TrueAnd w) := by
  have HAW := Lib.hid awake9_any
  have HSA : Hid (∀ w', Below w.heap.size w w' → Calls Try.prog 6 #[.slice a la.length cap] w' fun e w'' => e = .returned (.bool true) ∧ w' = w'') := fun w' h => by
    have := sources_any _ a cap la w' (hs.keep (Nat.le_refl _) (Keep.of_below h))
    rw [hb1] at this
    exact this
  have HSB : Hid (∀ w', Below w.heap.size w w' → Calls Try.prog 6 #[.slice b lb.length bcap] w' fun e w'' => e = .returned (.bool true) ∧ w' = w'') := fun w' h => by
    have := sources_any _ b bcap lb w' (ht.keep (Nat.le_refl _) (Keep.of_below h))
    rw [hb2] at this
    exact this
  have HS := Lib.hid hs
  have HT := Lib.hid ht
  have hla := (srcB_iff.1 hb1).1
  have hlb := (srcB_iff.1 hb2).1
  have HLA : Hid (∀ x ∈ la, x.length ≤ 300) := (srcB_iff.1 hb1).2
  have HLB : Hid (∀ x ∈ lb, x.length ≤ 300) := (srcB_iff.1 hb2).2
  obtain ⟨k, hk⟩ : ∃ k, k = min (min la.length lb.length) 64 := ⟨_, rfl⟩
  have hki : min (min (la.length : Int) (lb.length : Int)) 64 = (k : Int) := by omega
  obtain ⟨n, hn⟩ : ∃ n, n = 1 + N := ⟨_, rfl⟩
  have hni : 1 + (N : Int) = (n : Int) := by omega
  have hn1 : 1 ≤ n ∧ n ≤ 256 := by omega
  have hkl : k ≤ la.length ∧ k ≤ lb.length ∧ k ≤ 64 := by omega
  clear hs ht hb1 hb2 hn hk
  by_cases hk1 : k < 1
  · have hd : (k : Int) < 1 := by omega
    go_enter Try.func4, Try.ntmps4
    go_wp2_with fail
    refine (HAW.out _).mono ?_
    rintro e w1 ⟨rfl, b1⟩
    have HC := Lib.hid (HSA.out w1 b1)
    have HC2 := Lib.hid (HSB.out w1 b1)
    have HB1 := Lib.hid b1
    clear b1
    go_wp2_with fail
    refine HC.out.mono ?_
    rintro e w' ⟨rfl, rfl⟩
    go_wp2_with fail
    refine HC2.out.mono ?_
    rintro e w' ⟨rfl, rfl⟩
    have hz : lb.length < la.length → lb.length = 0 := by omega
    have hz2 : ¬ lb.length < la.length → la.length = 0 := by omega
    by_cases c1 : lb.length < la.length
    · have c2 := hz c1
      have c2z : ¬ (64 : Int) < (lb.length : Int) := by omega
      have c3 : (lb.length : Int) < 1 := by omega
      clear c2 hz hz2
      go_wp2_with fail
      go_ret
      exact ⟨rfl, HB1.out⟩
    · have c2 := hz2 c1
      have c2z : ¬ (64 : Int) < (la.length : Int) := by omega
      have c3 : (la.length : Int) < 1 := by omega
      clear c2 hz hz2
      go_wp2_with fail
      go_ret
      exact ⟨rfl, HB1.out⟩
  · have hd : ¬ (k : Int) < 1 := by omega
    go_enter Try.func4, Try.ntmps4
    go_wp2_with fail
    refine (HAW.out _).mono ?_
    rintro e w1 ⟨rfl, b1⟩
    have HC := Lib.hid (HSA.out w1 b1)
    have HC2 := Lib.hid (HSB.out w1 b1)
    have HB1 := Lib.hid b1
    clear b1
    go_wp2_with fail
    refine HC.out.mono ?_
    rintro e w' ⟨rfl, rfl⟩
    go_wp2_with fail
    refine HC2.out.mono ?_
    rintro e w' ⟨rfl, rfl⟩
    clear HC HC2 HSA HSB HAW
    go_upto_region 4 with fail
    go_cut [12] (fun s12 wx => s12 = .int .i64 (k : Int) ∧ wx = w1)
    case first =>
      clear hd hk1
      by_cases c1 : lb.length < la.length
      · by_cases c2 : 64 < lb.length
        · have c2z : (64 : Int) < (lb.length : Int) := by omega
          obtain rfl : k = 64 := by omega
          go_wp2_with fail
          go_meet
          exact ⟨rfl, rfl⟩
        · have c2z : ¬ (64 : Int) < (lb.length : Int) := by omega
          obtain rfl : k = lb.length := by omega
          go_wp2_with fail
          go_meet
          exact ⟨rfl, rfl⟩
      · by_cases c2 : 64 < la.length
        · have c2z : (64 : Int) < (la.length : Int) := by omega
          obtain rfl : k = 64 := by omega
          go_wp2_with fail
          go_meet
          exact ⟨rfl, rfl⟩
        · have c2z : ¬ (64 : Int) < (la.length : Int) := by omega
          obtain rfl : k = la.length := by omega
          go_wp2_with fail
          go_meet
          exact ⟨rfl, rfl⟩
    case rest =>
      obtain ⟨rfl, rfl⟩ := hcut
      go_wp2_with fail
      have HSB : Hid (∀ x ∈ la, IsByte x) := HS.out.byte
      have HTB : Hid (∀ x ∈ lb, IsByte x) := HT.out.byte
      have hcb : c < 256 := by omega
      generalize wc = w1 at *
      go_loopg [13, 14, 15, 49] k (fun gg v13 v14 v15 i wr => ∃ (j : Nat) (x1 x2 x3 : Value), j ≤ k ∧ k - j ≤ gg ∧ i = .int .i64 j ∧ v13 = x1 ∧ v14 = x2 ∧ v15 = x3 ∧ Hid (Three w.heap.size wr x1 x2 x3 (cutRs n la j) (cutRs n lb j) (addsN (cutRs n la j) (cutRs n lb j) c)) ∧ Hid (Keep w.heap.size w wr))
      case atStart => exact ⟨0, _, _, _, by omega, by omega, rfl, rfl, rfl, rfl, Three.nil _ _, (Keep.of_below HB1.out)⟩
      case round =>
        obtain ⟨j, x1, x2, x3, hj, hgg, rfl, rfl, rfl, rfl, HTH, HK⟩ := hrel
        by_cases hjk : j < k
        · have hja : j < la.length := by omega
          have hjb : j < lb.length := by omega
          have hjz : (j : Int) < (k : Int) := by omega
          have hja2 : (j : Int) < (la.length : Int) := by omega
          have hjb2 : (j : Int) < (lb.length : Int) := by omega
          have hj0 : (0 : Int) ≤ (j : Int) := by omega
          have hwz : w.heap.size ≤ wr.heap.size := HK.out.size
          have HNA := Lib.hid (cutRs_next n la hja)
          have HNB := Lib.hid (cutRs_next n lb hjb)
          have hlA := cutRs_len n la (show j ≤ la.length by omega)
          have hlB := cutRs_len n lb (show j ≤ lb.length by omega)
          have HZ : Hid (addsN (cutRs n la (j + 1)) (cutRs n lb (j + 1)) c = addsN (cutRs n la j) (cutRs n lb j) c ++ [plusN (cutF n la[j]) (cutF n lb[j]) c]) := by
            show _ = _
            rw [HNA.out, HNB.out, addsN_snoc _ _ (by rw [hlA, hlB])]
          have hlZ := addsN_len c hlA hlB
          obtain ⟨ba, oa, rfl, hba, hra⟩ := (HS.out.keep (Nat.le_refl _) HK.out).some hja
          obtain ⟨bb, ob, rfl, hbb, hrb⟩ := (HT.out.keep (Nat.le_refl _) HK.out).some hjb
          obtain ⟨ai, ci, cka, hwa⟩ := hra j hja
          obtain ⟨bi, di, ckb, hwb⟩ := hrb j hjb
          have ha3 : la[j].length ≤ 300 := HLA.out _ (List.getElem_mem hja)
          have hb3 : lb[j].length ≤ 300 := HLB.out _ (List.getElem_mem hjb)
          generalize cutRs n la j = A at *
          generalize cutRs n lb j = B at *
          generalize addsN A B c = Z at *
          generalize la[j] = x at *
          generalize lb[j] = y at *
          obtain ⟨qa, hqa⟩ : ∃ q, q = min x.length n := ⟨_, rfl⟩
          obtain ⟨qb, hqb⟩ : ∃ q, q = min y.length n := ⟨_, rfl⟩
          have HXT : Hid ((x.take qa).length = qa ∧ fillN (x.take qa) n = cutF n x) := by
            refine ⟨by rw [List.length_take]; omega, ?_⟩
            rw [hqa]; rfl
          have HYT : Hid ((y.take qb).length = qb ∧ fillN (y.take qb) n = cutF n y) := by
            refine ⟨by rw [List.length_take]; omega, ?_⟩
            rw [hqb]; rfl
          have HQA : Hid (∀ d : Decidable (n < x.length), (@ite Int (n < x.length) d (n : Int) (x.length : Int)).toNat = qa) := fun d => by split <;> omega
          have HQB : Hid (∀ d : Decidable (n < y.length), (@ite Int (n < y.length) d (n : Int) (y.length : Int)).toNat = qb) := fun d => by split <;> omega
          have zqa : min (x.length : Int) (n : Int) = (qa : Int) := by omega
          have zqb : min (y.length : Int) (n : Int) = (qb : Int) := by omega
          have la1 := hwa.sl.len
          have la2 := hwa.sl.most
          have lb1 := hwb.sl.len
          have lb2 := hwb.sl.most
          have hca : ci ≤ 9223372036854775807 := by unfold maxLen at la2; omega
          have hcb' : di ≤ 9223372036854775807 := by unfold maxLen at lb2; omega
          have qa1 : (qa : Int) ≤ (ci : Int) := by omega
          have qb1 : (qb : Int) ≤ (di : Int) := by omega
          have qa0 : (0 : Int) ≤ (qa : Int) := by omega
          have qb0 : (0 : Int) ≤ (qb : Int) := by omega
          have HFA : Hid (∀ w', Below wr.heap.size wr w' → Calls Try.prog 12 #[.slice ai qa ci, .int .i64 (n : Int)] w' fun e w2 => e = .returned (.slice (some ⟨w'.heap.size, 0, none⟩) n n) ∧ Hid (Rw w.heap.size w2 (some ⟨w'.heap.size, 0, none⟩) n (cutF n x)) ∧ Below w'.heap.size w' w2) := fun w' h => by
            have := fill_at w.heap.size ai ci (x.take qa) n w' (by omega) ((hwa.sl.firsts qa).below h) (Below.refl _ _)
            rw [HXT.out.1, HXT.out.2] at this
            exact this.mono fun e w2 ⟨h1, h2, h3, _⟩ => ⟨h1, h2, h3⟩
          have HFB : Hid (∀ w', Below wr.heap.size wr w' → Calls Try.prog 12 #[.slice bi qb di, .int .i64 (n : Int)] w' fun e w2 => e = .returned (.slice (some ⟨w'.heap.size, 0, none⟩) n n) ∧ Hid (Rw w.heap.size w2 (some ⟨w'.heap.size, 0, none⟩) n (cutF n y)) ∧ Below w'.heap.size w' w2) := fun w' h => by
            have := fill_at w.heap.size bi di (y.take qb) n w' (by omega) ((hwb.sl.firsts qb).below h) (Below.refl _ _)
            rw [HYT.out.1, HYT.out.2] at this
            exact this.mono fun e w2 ⟨h1, h2, h3, _⟩ => ⟨h1, h2, h3⟩
          have HAI : Hid ((∃ ad, ai = some ad) ∨ (ai = none ∧ x = [] ∧ ci = 0 ∧ qa = 0)) := by
            cases ai with
            | some ad => exact .inl ⟨ad, rfl⟩
            | none =>
              obtain ⟨h0, h1⟩ := hwa.sl.none rfl
              subst h0
              exact .inr ⟨rfl, rfl, h1, by simp at hqa; omega⟩
          have HBI : Hid ((∃ ad, bi = some ad) ∨ (bi = none ∧ y = [] ∧ di = 0 ∧ qb = 0)) := by
            cases bi with
            | some ad => exact .inl ⟨ad, rfl⟩
            | none =>
              obtain ⟨h0, h1⟩ := hwb.sl.none rfl
              subst h0
              exact .inr ⟨rfl, rfl, h1, by simp at hqb; omega⟩
          have y1 := cell_up cka
          have y2 := cell_up ckb
          have HQX := Lib.hid (cutF_len n x)
          have HQY := Lib.hid (cutF_len n y)
          clear hra hrb hwa hwb cka ckb hqa hqb HXT HYT la1 la2 lb1 lb2
          go_upto_region 11 with fail
          go_cut [17, 18] (fun s17 s18 wx => ∃ g1 g2, s17 = .slice (some ⟨g1, 0, none⟩) n n ∧ s18 = .slice (some ⟨g2, 0, none⟩) n n ∧ Hid (Rw w.heap.size wx (some ⟨g1, 0, none⟩) n (cutF n x)) ∧ Hid (Rw w.heap.size wx (some ⟨g2, 0, none⟩) n (cutF n y)) ∧ Hid (Below wr.heap.size wr wx))
          case first =>
            rcases HAI.out with ⟨ad, rfl⟩ | ⟨rfl, rfl, rfl, rfl⟩ <;> rcases HBI.out with ⟨bd, rfl⟩ | ⟨rfl, rfl, rfl, rfl⟩
            all_goals
              have zz : min (0 : Int) (n : Int) = 0 := by omega
              clear HAI HBI
              refine grow_begin (by kernel_rfl) ?_
              refine grow_take (by kernel_rfl) [0, 1, 2, 3, 4, 5, 6, 7, 8, 9, 10, 11, 12, 14, 15, 16, 17, 18, 19, 20, 21, 22, 23, 24, 25, 26] 4 _ _ (by kernel_rfl) ?_
              simp only [opsAt, List.getElem?_toArray, List.getElem?_cons_succ, List.getElem?_cons_zero]
              repeat (first | go_big_quiet_step (fail) | quiet_step (fail))
              refine wpQuiet_nil ?_
              intro w5 hw5
              have hb5 := below_of_up hw5
              have HC5 := Lib.hid (HFA.out w5 hb5)
              refine grow_one 13 (by kernel_rfl) hw5 (fun K hK => ?_)
              simp only [stepOf, List.getElem?_toArray, List.getElem?_cons_succ, List.getElem?_cons_zero]
              go_simp
              try rw [HQA.out]
              go_at_call 12
              (with_reducible refine HC5.out.mono ?_)
              rintro e w6 ⟨rfl, HR6, hb6⟩
              refine hK.out _ _ hb6 ?_
              clear hK K HC5
              have HB6 : Hid (Below wr.heap.size wr w6) := hb5.trans (hb6.mono hb5.size)
              generalize w5.heap.size = g5 at *
              intro w7 hw7
              have hb7 := below_of_up hw7
              have HB7 : Hid (Below wr.heap.size wr w7) := HB6.out.trans (hb7.mono HB6.out.size)
              have HR7 := Lib.hid (HR6.out.below hb7)
              have HC7 := Lib.hid (HFB.out w7 HB7.out)
              refine grow_one 27 (by kernel_rfl) hw7 (fun K hK => ?_)
              simp only [stepOf, List.getElem?_toArray, List.getElem?_cons_succ, List.getElem?_cons_zero]
              go_simp
              try rw [HQB.out]
              go_at_call 12
              (with_reducible refine HC7.out.mono ?_)
              rintro e w8 ⟨rfl, HR8, hb8⟩
              refine hK.out _ _ hb8 ?_
              clear hK K HC7
              have HB8 : Hid (Below wr.heap.size wr w8) := HB7.out.trans (hb8.mono HB7.out.size)
              have HR78 := Lib.hid (HR7.out.below hb8)
              generalize w7.heap.size = g7 at *
              refine grow_take (by kernel_rfl) [28, 29] 0 _ _ (by kernel_rfl) ?_
              simp only [opsAt, List.getElem?_toArray, List.getElem?_cons_succ, List.getElem?_cons_zero]
              repeat (first | go_big_quiet_step (fail) | quiet_step (fail))
              refine wpQuiet_nil ?_
              intro w9 hw9
              have hb9 := below_of_up hw9
              refine grow_done (by kernel_rfl) ?_
              have HR9 := Lib.hid (HR78.out.below hb9)
              have HS9 := Lib.hid (HR8.out.below hb9)
              have HB9 : Hid (Below wr.heap.size wr w9) := HB8.out.trans (hb9.mono HB8.out.size)
              clear hb5 hb6 hb7 hb8 hb9 hw5 hw7 hw9 HR6 HR7 HR8 HR78 HB7 HB8 y1 y2
              clear HFA HFB HK HTH HNA HNB HZ HQA HQB zqa zqb qa1 qb1 qa0 qb0
              go_wp2_with fail
              all_goals
                go_meet
                exact ⟨g5, g7, rfl, rfl, HR9, HS9, HB9⟩
          case rest =>
            obtain ⟨g1, g2, rfl, rfl, HX, HY, HBC⟩ := hcut
            have HT3 := Lib.hid (HTH.out.keep HBC.out)
            have HK3 : Hid (Keep w.heap.size w wc) := HK.out.trans (Keep.of_below HBC.out)
            have hwc : w.heap.size ≤ wc.heap.size := HK3.out.size
            clear HTH HK HBC HFA HFB HAI HBI y1 y2 zqa zqb ha3 hb3
            generalize cutF n x = X at *
            generalize cutF n y = Y at *
            have hlx : A.length ≤ 100000 := by omega
            have hly : B.length ≤ 100000 := by omega
            have hlz : Z.length ≤ 100000 := by omega
            go_wp2_with (first
              | (at_builtin; refine wpList_push_rows3 _ rfl _ _ rfl w.heap.size _ _ rfl (HT3.out.keep ((Below.refl _ _).alloc (Nat.le_refl _) _)).one wc.heap.size rfl (some ⟨g1, 0, none⟩) n X (by rw [HQX.out]; simp) (HX.out.below ((Below.refl _ _).alloc (Nat.le_refl _) _)) (by simp; omega) hlx ?_; intro v5 w5 HO5 HK5; have HT5 := Lib.hid ((HT3.out.keep ((Below.refl _ _).alloc (Nat.le_refl _) _)).push1 HO5.out HK5.out); have HK5b : Hid (Keep w.heap.size wc w5) := (Keep.of_below ((Below.refl _ _).alloc (Nat.le_refl _) _)).trans HK5.out.1; have HX5 := Lib.hid (HX.out.keep HK5b.out); have HY5 := Lib.hid (HY.out.keep HK5b.out); have hw5 : w.heap.size ≤ w5.heap.size := Nat.le_trans hwc HK5b.out.size; clear HO5 HK5 HT3)
              | (at_builtin; refine wpList_push_rows3 _ rfl _ _ rfl w.heap.size _ _ rfl (HT5.out.keep ((Below.refl _ _).alloc (Nat.le_refl _) _)).two w5.heap.size rfl (some ⟨g2, 0, none⟩) n Y (by rw [HQY.out]; simp) (HY5.out.below ((Below.refl _ _).alloc (Nat.le_refl _) _)) (by simp; omega) hly ?_; intro v6 w6 HO6 HK6; have HT6 := Lib.hid ((HT5.out.keep ((Below.refl _ _).alloc (Nat.le_refl _) _)).push2 HO6.out HK6.out); have HK6b : Hid (Keep w.heap.size w5 w6) := (Keep.of_below ((Below.refl _ _).alloc (Nat.le_refl _) _)).trans HK6.out.1; have HX6 := Lib.hid (HX5.out.keep HK6b.out); have HY6 := Lib.hid (HY5.out.keep HK6b.out); have hw6 : w.heap.size ≤ w6.heap.size := Nat.le_trans hw5 HK6b.out.size; clear HO6 HK6 HT5))
            have hpl := plus_at w.heap.size (some ⟨g1, 0, none⟩) (some ⟨g2, 0, none⟩) n n X Y c w6 (by rw [HQY.out]; omega) hcb (by rw [HQX.out, HQY.out]) HX6.out.sl HY6.out.sl (Below.refl _ _)
            rw [HQX.out, HQY.out] at hpl
            have HK6 : Hid (Keep w.heap.size w w6) := (HK3.out.trans HK5b.out).trans HK6b.out
            have HPQ : Hid ((plusN X Y c).length = n) := by
              show _ = _
              rw [plusN_len _ _ _ (by rw [HQX.out, HQY.out]; exact Nat.le_refl _), HQX.out]
            generalize plusN X Y c = P at *
            (with_reducible refine hpl.mono ?_)
            rintro e w7 ⟨rfl, HN7, hb7, -⟩
            have HT7 := Lib.hid (HT6.out.keep hb7)
            have HK7 : Hid (Keep w.heap.size w w7) := HK6.out.trans (Keep.of_below hb7)
            have hw7 : w.heap.size ≤ w7.heap.size := HK7.out.size
            generalize w6.heap.size = g6 at *
            clear hpl hb7 HT6 HK6 HK5b HK6b HK3 HX HY HX5 HY5 HX6 HY6
            go_wp2_with (at_builtin; refine wpList_push_rows3 _ rfl _ _ rfl w.heap.size _ _ rfl (HT7.out.keep ((Below.refl _ _).alloc (Nat.le_refl _) _)).three w7.heap.size rfl (some ⟨g6, 0, none⟩) n P (by rw [HPQ.out]; simp) (HN7.out.below ((Below.refl _ _).alloc (Nat.le_refl _) _)) (by simp; omega) hlz ?_; intro v8 w8 HO8 HK8; have HT8 := Lib.hid ((HT7.out.keep ((Below.refl _ _).alloc (Nat.le_refl _) _)).push3 HO8.out HK8.out); have HK9 : Hid (Keep w.heap.size w w8) := (HK7.out.trans (Keep.of_below ((Below.refl _ _).alloc (Nat.le_refl _) _))).trans HK8.out.1; clear HO8 HK8 HT7)
            rw [← HNA.out, ← HNB.out, ← HZ.out] at HT8
            go_roundg (k - (j + 1))
            case measure => omega
            case rel => exact ⟨j + 1, v5, v6, v8, by omega, Nat.le_refl _, by first | rfl | go_num | (congr 1; omega), rfl, rfl, rfl, HT8, HK9⟩
        · obtain rfl : j = k := by omega
          have hlx := cutRs_len n la (show j ≤ la.length by omega)
          have hly := cutRs_len n lb (show j ≤ lb.length by omega)
          have HCX := Lib.hid (cutRs_ok n HSB.out j)
          have HCY := Lib.hid (cutRs_ok n HTB.out j)
          have HCZ := Lib.hid (addsN_ok (c := c) HCX.out HCY.out)
          have hlz := addsN_len c hlx hly
          have HSS := Lib.hid (sums_sym (id := id) hcb hlx hly HCX.out HCY.out)
          generalize cutRs n la j = X at *
          generalize cutRs n lb j = Y at *
          generalize addsN X Y c = Z at *
          obtain ⟨a1, c1, rfl, hr1⟩ := HTH.out.one.rs
          obtain ⟨a2, c2, rfl, hr2⟩ := HTH.out.two.rs
          obtain ⟨a3, c3, rfl, hr3⟩ := HTH.out.three.rs
          have HS1 := Lib.hid (esym_at a1 c1 j X n id hlx hr1 (by omega) (by omega) hn1.1 hn1.2 (by omega) (good_all fun x hx => (HCX.out x hx).1))
          have HS2 := Lib.hid (esym_at a2 c2 j Y n id hly hr2 (by omega) (by omega) hn1.1 hn1.2 (by omega) (good_all fun x hx => (HCY.out x hx).1))
          have HS3 := Lib.hid (esym_at a3 c3 j Z n id hlz hr3 (by omega) (by omega) hn1.1 hn1.2 (by omega) (good_all fun x hx => (HCZ.out x hx).1))
          have HL1 := Lib.hid (idSym_ok (ls := X) n id fun x hx => (HCX.out x hx).2)
          have HL2 := Lib.hid (idSym_ok (ls := Y) n id fun x hx => (HCY.out x hx).2)
          have HL3 := Lib.hid (idSym_ok (ls := Z) n id fun x hx => (HCZ.out x hx).2)
          generalize idSym X n id = P1 at *
          generalize idSym Y n id = P2 at *
          generalize idSym Z n id = P3 at *
          clear hr1 hr2 hr3 HTH HCX HCY HCZ
          rw [hlx, hly, hlz]
          go_wp2_with fail
          (with_reducible refine (HS1.out wr (Below.refl _ _)).mono ?_)
          rintro e w2 ⟨b2, g2, rfl, hr2⟩
          have HB2 := Lib.hid b2
          have HR2 := Lib.hid hr2
          have HC2 := Lib.hid (HS2.out w2 b2)
          clear b2 hr2 HS1
          go_wp2_with fail
          (with_reducible refine HC2.out.mono ?_)
          rintro e w3 ⟨b3, g3, rfl, hr3⟩
          have HB3 : Hid (Below wr.heap.size wr w3) := HB2.out.trans (b3.mono HB2.out.size)
          have HR23 := Lib.hid (HR2.out.below b3)
          have HR3 := Lib.hid hr3
          have HC3 := Lib.hid (HS3.out w3 HB3.out)
          clear b3 hr3 HS2 HC2 HR2
          go_wp2_with fail
          (with_reducible refine HC3.out.mono ?_)
          rintro e w4 ⟨b4, g4, rfl, hr4⟩
          have HB4 : Hid (Below wr.heap.size wr w4) := HB3.out.trans (b4.mono HB3.out.size)
          have HR24 := Lib.hid (HR23.out.below b4)
          have HR34 := Lib.hid (HR3.out.below b4)
          have HR4 := Lib.hid hr4
          clear b4 hr4 HS3 HC3 HR23 HR3
          go_wp2_with fail
          have HP : Hid (∀ w', Below w4.heap.size w4 w' → Calls Try.prog 13 #[.slice (some ⟨g2, 0, none⟩) n n, .slice (some ⟨g3, 0, none⟩) n n, .int .u8 (c : Int)] w' fun e w'' => e = .returned (.slice (some ⟨w'.heap.size, 0, none⟩) n n) ∧ Rw 0 w'' (some ⟨w'.heap.size, 0, none⟩) n P3 ∧ Below w'.heap.size w' w'') := fun w' h => by
            have := plus_at 0 (some ⟨g2, 0, none⟩) (some ⟨g3, 0, none⟩) n n P1 P2 c w' (by rw [HL2.out.1]; omega) hcb (by rw [HL1.out.1, HL2.out.1]) (HR24.out.sl.below h) (HR34.out.sl.below h) (Below.refl _ _)
            rw [HL1.out.1, HL2.out.1, ← HSS.out] at this
            exact this.mono fun e w'' ⟨h1, h2, h3, _⟩ => ⟨h1, h2.out, h3⟩
          have HW4 : Hid (Below w.heap.size w w4) := (HK.out.trans (Keep.of_below HB4.out)).below (Nat.le_refl _)
          have s4 := conv_class HR4.out.sl HL3.out.1
          refine grow_begin (by kernel_rfl) ?_
          refine grow_take (by kernel_rfl) [0, 1, 2, 3, 4, 5, 6, 7, 8, 9, 10, 11, 12, 13, 14, 15] 5 _ _ (by kernel_rfl) ?_
          simp only [opsAt, List.getElem?_toArray, List.getElem?_cons_succ, List.getElem?_cons_zero]
          repeat (first | go_big_quiet_step (fail) | quiet_step (fail))
          refine wpQuiet_nil ?_
          intro w6 hw6
          have hb6 := below_of_up hw6
          have HC6 := Lib.hid (HP.out w6 hb6)
          refine grow_one 16 (by kernel_rfl) hw6 (fun K hK => ?_)
          simp only [stepOf, List.getElem?_toArray, List.getElem?_cons_succ, List.getElem?_cons_zero]
          go_simp
          go_at_call 13
          (with_reducible refine HC6.out.mono ?_)
          rintro e w7 ⟨rfl, hr7, hb7⟩
          refine hK.out _ _ hb7 ?_
          clear hK K HC6
          have s7 := conv_class hr7.sl HL3.out.1
          have HB7 : Hid (Below w4.heap.size w4 w7) := hb6.trans (hb7.mono hb6.size)
          generalize w6.heap.size = g6 at *
          clear hr7 hb7
          refine grow_take (by kernel_rfl) [17, 18, 19, 20] 0 _ _ (by kernel_rfl) ?_
          simp only [opsAt, List.getElem?_toArray, List.getElem?_cons_succ, List.getElem?_cons_zero]
          repeat (first | go_big_quiet_step (fail) | quiet_step (fail))
          refine wpQuiet_nil ?_
          intro w8 hw8
          have hb8 := below_of_up hw8
          refine grow_done (by kernel_rfl) ?_
          have HB8 : Hid (Below w.heap.size w w8) := HW4.out.trans ((HB7.out.trans (hb8.mono HB7.out.size)).mono HW4.out.size)
          clear s4 s7 hb8 hw8 hb6 hw6
          go_wp2_with fail
          go_ret
          exact ⟨rfl, HB8.out⟩

theorem encodeSums_walk (a : Option Addr) (cap : Nat) (la : Rws) (b : Option Addr) (bcap : Nat) (lb : Rws) (N id c : Nat) (hN : N ≤ 255) (hid : id ≤ 4294967295) (hc : c ≤ 255) (w : World) (hs : Rs w.heap.size w a cap la) (ht : Rs w.heap.size w b bcap lb) :
    Calls Try.prog 4 #[.slice a la.length cap, .slice b lb.length bcap, .int .u8 (N : Int), .int .u32 (id : Int), .int .u8 (c : Int)] w (TrueAnd w) := by
  by_cases h1 : srcB la = true
  · by_cases h2 : srcB lb = true
    · exact sums_main a cap la b bcap lb N id c hN hid hc w hs ht h1 h2
    · exact sums_big a cap la b bcap lb N id c w hs ht (.inr (by simpa using h2))
  · exact sums_big a cap la b bcap lb N id c w hs ht (.inl (by simpa using h1))
end Go.Proofs.Ytgfcpneblkleiaa
