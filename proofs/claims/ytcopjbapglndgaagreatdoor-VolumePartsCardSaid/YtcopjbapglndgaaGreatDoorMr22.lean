/-
  Powers of package field.
  The document's Symbol.
  Package precode's numbers: how many parities, and what each has at each source.
  Numbers that look like chance: the next state, degrees and seeds, as plain numbers.
  Cells (a place and a number): lists of them in memory; package row's Cells.
  A symbol's places and numbers, as plain mathematics.
  Symbols of sources, as plain mathematics: by cells; the document's row; sums of symbols.
-/
import Derived.Test.YtcopjbapglndgaaGreatDoorMr21
import Derived.Lib.Hide
section
namespace Go.Proofs.YtcopjbapglndgaaGreatDoor
open Go.ChangeShapes Go.WideShapes Go.ChangeAt Go.RowKit
set_option linter.unusedVariables false

theorem turns_any (n : Int) (h1 : -9223372036854775808 ≤ n) (h2 : n ≤ 9223372036854775807) (w : World) :
    Calls Tryz.prog 132 #[.int .i64 n] w fun e w' => e = .returned (.int .i64 (n % 255)) ∧ w = w' := by
  by_cases h : 0 ≤ n
  · go_enter Tryz.func132, Tryz.ntmps132
    go_wp2
    go_ret
    exact ⟨rfl, rfl⟩
  · have ht : n.tmod 255 = -((-n) % 255) := by
      rw [← Int.tmod_eq_emod_of_nonneg (by omega : 0 ≤ -n), Int.neg_tmod]; omega
    have HN : Hid (n % 255 = if (-n) % 255 = 0 then 0 else 255 - (-n) % 255) := Lib.hid (by split <;> omega)
    have b1 : 0 ≤ (-n) % 255 := by omega
    have b2 : (-n) % 255 < 255 := by omega
    generalize (-n) % 255 = m at *
    by_cases hm : m = 0
    · subst hm
      have HE := Lib.hid (HN.out.trans (if_pos rfl))
      go_enter Tryz.func132, Tryz.ntmps132
      go_wp2
      go_ret
      exact ⟨by rw [HE.out]; rfl, rfl⟩
    · have HE := Lib.hid (HN.out.trans (if_neg hm))
      have hl : -m < 0 := by omega
      go_enter Tryz.func132, Tryz.ntmps132
      go_wp2
      go_ret
      exact ⟨by rw [HE.out]; go_num, rfl⟩

theorem and64i (k : Nat) (hk : k < 255) : bits .and .i64 (k : Int) 1 = ((k % 2 : Nat) : Int) := and64 k (by omega)

set_option maxHeartbeats 400000 in
theorem pow_any (a : Nat) (n : Int) (ha : a < 256) (h1 : -9223372036854775808 ≤ n) (h2 : n ≤ 9223372036854775807) (w : World) :
    Calls Tryz.prog 124 #[.int .u8 (a : Int), .int .i64 n] w fun e w' => e = .returned (.int .u8 ((powI a n : Nat) : Int)) ∧ w = w' := by
  by_cases h0 : n = 0
  · subst h0
    have HE := Lib.hid (show powI a 0 = 1 from rfl)
    go_enter Tryz.func124, Tryz.ntmps124
    go_wp2
    go_ret
    exact ⟨by rw [HE.out]; rfl, rfl⟩
  have hn : (n == 0) = false := by simpa using h0
  by_cases ha0 : a = 0
  · subst ha0
    have HE := Lib.hid (show powI 0 n = 0 by unfold powI; rw [if_neg h0]; rfl)
    clear h0
    have hz : (((0 : Nat) : Int) == 0) = true := rfl
    go_enter Tryz.func124, Tryz.ntmps124
    go_wp2
    go_ret
    exact ⟨by rw [HE.out]; rfl, rfl⟩
  have hz : ((a : Int) == 0) = false := by simpa using ha0
  have HE := Lib.hid (show powI a n = powN a (n % 255).toNat by unfold powI; rw [if_neg h0, if_neg ha0])
  clear h0 ha0
  obtain ⟨N, hN⟩ : ∃ N : Nat, n % 255 = N := ⟨(n % 255).toNat, by omega⟩
  have hN2 : N < 255 := by omega
  have HE2 := Lib.hid (show powI a n = powN a N by rw [HE.out, hN]; rfl)
  have HN := Lib.hid hN
  clear hN HE
  go_enter Tryz.func124, Tryz.ntmps124
  go_wp2_with (go_at_call 132; refine (turns_any _ h1 h2 _).mono ?_; rintro e w' ⟨rfl, rfl⟩)
  rw [HN.out]
  go_loop [0, 5, 6] (fun x p l => ∃ A P K : Nat, A < 256 ∧ P < 256 ∧ K < 255 ∧ mulN P (powN A K) = powN a N ∧ x = .int .u8 (A : Int) ∧ p = .int .u8 (P : Int) ∧ l = .int .i64 (K : Int)) (fun _ _ l => (intOf l).toNat)
  case atStart => exact ⟨a, 1, N, ha, by omega, hN2, one_mul (powN_lt ha N), rfl, rfl, rfl⟩
  case round =>
    obtain ⟨A, P, K, hA, hP, hK, hI, rfl, rfl, rfl⟩ := hrel
    have HI := Lib.hid hI
    clear hI
    by_cases hk0 : K = 0
    · subst hk0
      have HF := Lib.hid (show P = powI a n by rw [HE2.out, ← HI.out]; exact (mul_one hP).symm)
      clear hK
      go_wp2
      go_ret
      exact ⟨ret_u8 HF.out, rfl⟩
    · have hpos : 0 < K := by omega
      have ea := and64i K hK
      have hl := mulN_lt A hA
      have hl2 := mulN_lt A hP
      by_cases hodd : K % 2 = 1
      · rw [hodd] at ea
        have HJ := Lib.hid ((pow_odd hP hA hodd).trans HI.out)
        have he : (((1 : Nat) : Int) == 1) = true := rfl
        clear hodd hk0
        go_wp2_with (go_at_call 109; refine (mul_any _ _ (by assumption) (by assumption) _).mono ?_; rintro e w' ⟨rfl, rfl⟩)
        go_round
        case rel => exact ⟨mulN A A, mulN P A, K / 2, hl, hl2, by omega, HJ.out, rfl, rfl, by first | rfl | go_num⟩
        case measure => simp [intOf]; omega
      · have hev : K % 2 = 0 := by omega
        rw [hev] at ea
        have HJ := Lib.hid ((pow_even (p := P) hA hev).trans HI.out)
        have he : (((0 : Nat) : Int) == 1) = false := rfl
        clear hodd hk0 hev
        go_wp2_with (go_at_call 109; refine (mul_any _ _ (by assumption) (by assumption) _).mono ?_; rintro e w' ⟨rfl, rfl⟩)
        go_round
        case rel => exact ⟨mulN A A, P, K / 2, hl, hP, by omega, HJ.out, rfl, rfl, by first | rfl | go_num⟩
        case measure => simp [intOf]; omega

end Go.Proofs.YtcopjbapglndgaaGreatDoor
end

section
namespace Go.Proofs.YtcopjbapglndgaaGreatDoor
open Go.ChangeShapes Go.WideShapes Go.ChangeAt Go.RowKit Go.Joins
set_option linter.unusedVariables false

theorem zeros_arr (n : Nat) : rowArr n zV = rowArr n (vOf (List.replicate n 0)) := by
  apply Array.ext
  · simp [rowArr]
  · intro i h1 h2
    have hi : i < n := by simpa [rowArr] using h1
    simp [rowArr, zV, vOf, byteV, hi]
theorem zeros_new (w : World) (n : Nat) : NewTo w (w.alloc (.cells (rowArr n zV) 5)) (List.replicate n 0) n :=
  NewTo.of_whole (by simp) ((Below.refl _ _).alloc (Nat.le_refl _) _) (by rw [← zeros_arr]; exact heap_alloc_new w _)
theorem zeros_byte (n : Nat) : IsByte (List.replicate n 0) := fun x hx => by
  have := (List.mem_replicate.1 hx).2; omega
theorem zeros_rw (B : Nat) (w : World) (n : Nat) (h : n ≤ 1000000) : Rw B (w.alloc (.cells (rowArr n zV) 5)) (some ⟨w.heap.size, 0, none⟩) n (List.replicate n 0) := by
  have := Rw.of_new (B := B) (by rw [List.length_replicate]; exact zeros_new w n) (zeros_byte n) (by rw [List.length_replicate]; exact h)
  rw [List.length_replicate] at this
  exact this

theorem rw_of {B : Nat} {W w : World} {m : List Nat} {n : Nat} (h : NewTo W w m n) (hl : m.length = n) (hb : IsByte m) (hm : n ≤ 1000000) : Rw B w (some ⟨W.heap.size, 0, none⟩) n m := by
  subst hl
  exact Rw.of_new h hb hm

theorem fill_at (B : Nat) (a : Option Addr) (cap : Nat) (l : List Nat) (n : Nat) (w : World) (hn : n ≤ 1000000) (hs : Sl w a cap l) {W : World} (hb : Below W.heap.size W w) :
    Calls Tryz.prog 33 #[.slice a l.length cap, .int .i64 (n : Int)] w fun e w' => e = .returned (.slice (some ⟨w.heap.size, 0, none⟩) n n) ∧ Hid (Rw B w' (some ⟨w.heap.size, 0, none⟩) n (fillN l n)) ∧ Below w.heap.size w w' ∧ Below W.heap.size W w' :=
  (fill_any a cap l n w hn hs).mono fun _ _ ⟨h1, h2⟩ => ⟨h1, rw_of h2 (fillN_len l n) (fillN_byte hs.byte n) hn, h2.below, hb.trans (h2.below.mono hb.size)⟩
theorem plus_at (B : Nat) (a a2 : Option Addr) (cap cap2 : Nat) (l m : List Nat) (c : Nat) (w : World) (hl : m.length ≤ 1000000) (hc : c < 256) (he : l.length = m.length) (hs : Sl w a cap l) (hs2 : Sl w a2 cap2 m) {W : World} (hb : Below W.heap.size W w) :
    Calls Tryz.prog 32 #[.slice a l.length cap, .slice a2 m.length cap2, .int .u8 (c : Int)] w fun e w' => e = .returned (.slice (some ⟨w.heap.size, 0, none⟩) l.length l.length) ∧ Hid (Rw B w' (some ⟨w.heap.size, 0, none⟩) l.length (plusN l m c)) ∧ Below w.heap.size w w' ∧ Below W.heap.size W w' :=
  (plus_any a a2 cap cap2 l m c w hl hc (by omega) hs hs2).mono fun _ _ ⟨h1, h2⟩ => ⟨h1, rw_of h2 (plusN_len l m c (by omega)) (plusN_byte l m c hs.byte hs2.byte) (by omega), h2.below, hb.trans (h2.below.mono hb.size)⟩

def SymPost (v : Rws) (m : Nat) (row : List Nat) (w : World) (e : Ending) (w' : World) : Prop :=
  ∃ g, e = .returned (.slice (some ⟨g, 0, none⟩) m m) ∧ Rw w.heap.size w' (some ⟨g, 0, none⟩) m (symTo v m row v.length) ∧ Below w.heap.size w w'

theorem cell_up {w : World} {p : Addr} {u : Value} (h : w.cell? p = some u) : ∀ d os, (Sort.grow (redrawn w d) os).cell? p = some u := fun d os => by
  rw [(below_regrown w d os).cell (World.block_lt_of_cell? w p h)]; exact h

set_option maxRecDepth 100000 in
set_option maxHeartbeats 1000000 in
theorem symbol_any (B : Nat) (a : Option Addr) (cap : Nat) (v : Rws) (m : Nat) (ra : Option Addr) (rcap : Nat) (row : List Nat) (w : World) (hB : B ≤ w.heap.size) (hs : Rs B w a cap v) (hl : v.length ≤ row.length) (hr : Sl w ra rcap row) (hm : m ≤ 1000000) :
    Calls Tryz.prog 14 #[.slice a v.length cap, .int .i64 (m : Int), .slice ra row.length rcap] w (SymPost v m row w) := by
  have HS := Lib.hid hs
  have HR := Lib.hid hr
  have HV := Lib.hid hs.byte
  have hlm := hs.lt
  have hlr := hr.lt
  have hmk := make_row m hm
  have HZ := Lib.hid (zeros_rw w.heap.size w m hm)
  have HB0 := Lib.hid ((Below.refl w.heap.size w).alloc (Nat.le_refl _) (.cells (rowArr m zV) 5))
  clear hs hr
  go_enter Tryz.func14, Tryz.ntmps14
  go_wp2_with fail
  clear hmk
  go_loopw [7, 13] (fun o i wr => ∃ k g : Nat, k ≤ v.length ∧ i = .int .i64 k ∧ o = .slice (some ⟨g, 0, none⟩) m m ∧ Hid (Rw w.heap.size wr (some ⟨g, 0, none⟩) m (symTo v m row k)) ∧ Hid (Below w.heap.size w wr)) (fun _ i _ => v.length - (intOf i).toNat)
  case atStart => exact ⟨0, w.heap.size, by omega, rfl, rfl, HZ, HB0⟩
  case round =>
    obtain ⟨k, g, hk, rfl, rfl, HO, HB⟩ := hrel
    by_cases hlt : k < v.length
    · obtain ⟨b, off, rfl, hb, hrr⟩ := (HS.out.keep hB (Keep.of_below HB.out)).some hlt
      obtain ⟨ai, ci, hck, hrw⟩ := hrr k hlt
      have hkr : k < row.length := by omega
      obtain ⟨b2, off2, rfl, hb2⟩ := (HR.out.below HB.out).some hkr
      have hck2 := hb2 k hkr
      have hy : row[k] < 256 := HR.out.byte _ (List.getElem_mem hkr)
      have HSL := Lib.hid hrw.sl
      have HE : Hid (symTo v m row (k + 1) = plusN (symTo v m row k) (fillN v[k] m) row[k]) := by
        show plusN _ _ _ = _
        rw [getR hlt, getD_get hkr]
      have HL := Lib.hid (symTo_ok (row := row) (m := m) HV.out k (by omega)).1
      generalize v[k] = x at *
      generalize row[k] = y at *
      have c1 := cell_up hck
      have c2 := cell_up hck2
      have i1 : (0 : Int) ≤ (k : Int) := by omega
      have i2 : (k : Int) < (v.length : Int) := by omega
      have i3 : (k : Int) < (row.length : Int) := by omega
      clear hrr hrw hb2 hck hck2 HZ HB0
      go_wp2_with fail
      refine grow_begin (by kernel_rfl) ?_
      refine grow_take (by kernel_rfl) [0, 1, 2, 3, 4, 5, 7, 8, 9, 10] 3 _ _ (by kernel_rfl) ?_
      simp only [opsAt, List.getElem?_toArray, List.getElem?_cons_succ, List.getElem?_cons_zero]
      repeat (first | go_big_quiet_step (fail) | quiet_step (fail))
      refine wpQuiet_nil ?_
      intro w1 hw1
      have hb1 := below_of_up hw1
      clear c1 c2 i1 i2 i3
      refine grow_one 6 (by kernel_rfl) hw1 (fun K hK => ?_)
      simp only [stepOf, List.getElem?_toArray, List.getElem?_cons_succ, List.getElem?_cons_zero]
      go_simp
      go_at_call 33
      refine (fill_at w.heap.size ai ci x m _ hm (HSL.out.below hb1) hb1).mono ?_
      rintro e w2 ⟨rfl, HN2, hb12, hb2⟩
      refine hK.out _ _ hb12 ?_
      clear hK K
      generalize w1.heap.size = g1 at *
      intro w3 hw3
      have hb3 := below_of_up hw3
      refine grow_one 11 (by kernel_rfl) hw3 (fun K hK => ?_)
      simp only [stepOf, List.getElem?_toArray, List.getElem?_cons_succ, List.getElem?_cons_zero]
      go_simp
      go_at_call 32
      have hb03 : Below wr.heap.size wr w3 := hb2.trans (hb3.mono hb2.size)
      have HP : Hid (Calls Tryz.prog 32 #[.slice (some ⟨g, 0, none⟩) m m, .slice (some ⟨g1, 0, none⟩) m m, .int .u8 (y : Int)] w3 fun e w' => e = .returned (.slice (some ⟨w3.heap.size, 0, none⟩) m m) ∧ Hid (Rw w.heap.size w' (some ⟨w3.heap.size, 0, none⟩) m (symTo v m row (k + 1))) ∧ Below w3.heap.size w3 w' ∧ Below wr.heap.size wr w') := by
        have := plus_at w.heap.size (some ⟨g, 0, none⟩) (some ⟨g1, 0, none⟩) m m (symTo v m row k) (fillN x m) y w3 (by rw [fillN_len]; exact hm) hy (by rw [HL.out, fillN_len]) (HO.out.sl.below hb03) (HN2.out.sl.below hb3) hb03
        rw [HL.out, fillN_len, ← HE.out] at this
        exact this
      refine HP.out.mono ?_
      rintro e w4 ⟨rfl, HN4, hb34, hb4⟩
      refine hK.out _ _ hb34 ?_
      clear hK K HP HO HE HL
      generalize w3.heap.size = g2 at *
      refine grow_take (by kernel_rfl) [12] 0 _ _ (by kernel_rfl) ?_
      simp only [opsAt, List.getElem?_toArray, List.getElem?_cons_succ, List.getElem?_cons_zero]
      repeat (first | go_big_quiet_step (fail) | quiet_step (fail))
      refine wpQuiet_nil ?_
      intro w5 hw5
      have hb5 := below_of_up hw5
      refine grow_done (by kernel_rfl) ?_
      have HN5 := Lib.hid (HN4.out.below hb5)
      have HB5 : Hid (Below w.heap.size w w5) := HB.out.trans ((hb4.trans (hb5.mono hb4.size)).mono HB.out.size)
      clear hb5 hw5 hb4 hb34 hb03 hb3 hw3 hb2 hb12 hb1 hw1 HN4 HN2
      go_wp2_with fail
      go_roundw
      case rel => exact ⟨k + 1, g2, by omega, by go_num, rfl, HN5, HB5⟩
      case measure => simp [intOf]; omega
    · obtain rfl : k = v.length := by omega
      go_wp2_with fail
      go_ret
      exact ⟨g, rfl, HO.out, HB.out⟩
end Go.Proofs.YtcopjbapglndgaaGreatDoor
end

section
namespace Go.Proofs.YtcopjbapglndgaaGreatDoor
open Go.ChangeShapes Go.WideShapes Go.ChangeAt Go.RowKit Go.Joins
set_option linter.unusedVariables false

/-- How many sparse parities. -/
def spN (k : Nat) : Nat := (k + 7) / 8 + 1
/-- The number of a sparse parity. -/
def sparN (s j i : Nat) : Nat := if i % s = j ∨ (3 * i + 1) % s = j then 1 else 0
/-- The number of parity j at source i. -/
def pnN (s j i : Nat) : Nat := if j < s then sparN s j i else powI 2 (((i + 1) * (j - s + 1) : Nat) : Int)
def parRow (k j : Nat) : List Nat := (List.range k).map (pnN (spN k) j)
def parRows (k : Nat) : Rws := (List.range (spN k + 2)).map (parRow k)
theorem parRow_len (k j : Nat) : (parRow k j).length = k := by simp [parRow]
theorem parRow_get (k j i : Nat) (h : i < (parRow k j).length) : (parRow k j)[i] = pnN (spN k) j i := by simp [parRow]
theorem parRows_len (k : Nat) : (parRows k).length = spN k + 2 := by simp [parRows]
theorem parRows_get (k j : Nat) (h : j < (parRows k).length) : (parRows k)[j] = parRow k j := by simp [parRows]
theorem powI_lt {a : Nat} (ha : a < 256) (n : Int) : powI a n < 256 := by
  unfold powI
  split
  · omega
  · split
    · omega
    · exact powN_lt ha _
theorem sparN_lt (s j i : Nat) : sparN s j i < 256 := by unfold sparN; split <;> omega
theorem pnN_lt (s j i : Nat) : pnN s j i < 256 := by
  unfold pnN
  split
  · exact sparN_lt _ _ _
  · exact powI_lt (by omega) _
theorem parRow_byte (k j : Nat) : IsByte (parRow k j) := fun n hn => by
  obtain ⟨i, _, rfl⟩ := List.mem_map.1 hn
  exact pnN_lt _ _ _
theorem spN_bound {k : Nat} (h : k ≤ 64) : spN k ≤ 9 := by unfold spN; omega
theorem spN_two {k : Nat} (h : 1 ≤ k) : 2 ≤ spN k := by unfold spN; omega

theorem sparses_any (k : Nat) (hk : k ≤ 64) (w : World) :
    Calls Tryz.prog 104 #[.int .i64 (k : Int)] w fun e w' => e = .returned (.int .i64 ((spN k : Nat) : Int)) ∧ w = w' := by
  have e : ((spN k : Nat) : Int) = ((k : Int) + 7) / 8 + 1 := by unfold spN; omega
  rw [e]
  go_enter Tryz.func104, Tryz.ntmps104
  go_wp2
  go_ret
  exact ⟨rfl, rfl⟩

theorem pcount_any (k : Nat) (h1 : 1 ≤ k) (hk : k ≤ 64) (w : World) :
    Calls Tryz.prog 89 #[.int .i64 (k : Int)] w fun e w' => e = .returned (.int .i64 ((spN k + 2 : Nat) : Int)) ∧ w = w' := by
  have hb := spN_bound hk
  have d1 : ¬ ((k : Int) < 1) := by omega
  have d2 : ¬ ((64 : Int) < (k : Int)) := by omega
  have HS := Lib.hid (sparses_any k hk)
  generalize spN k = s at *
  clear h1
  go_enter Tryz.func89, Tryz.ntmps89
  go_wp2_with (go_at_call 104; refine (HS.out _).mono ?_; rintro e w' ⟨rfl, rfl⟩)
  go_ret
  exact ⟨by first | rfl | go_num, rfl⟩

theorem count_none (k : Int) (h : k < 1 ∨ 64 < k) (w : World) :
    Calls Tryz.prog 89 #[.int .i64 k] w fun e w' => e = .returned (.int .i64 0) ∧ w = w' := by
  by_cases h1 : k < 1
  · clear h
    go_enter Tryz.func89, Tryz.ntmps89
    go_wp2
    go_ret
    exact ⟨rfl, rfl⟩
  · have h2 : 64 < k := by omega
    clear h
    go_enter Tryz.func89, Tryz.ntmps89
    go_wp2
    go_ret
    exact ⟨rfl, rfl⟩

theorem mod_two (i s : Nat) : ((i : Int).tmod (s : Int) = ((i % s : Nat) : Int)) ∧ ((i : Int) % (s : Int) = ((i % s : Nat) : Int)) :=
  ⟨by rw [Int.tmod_eq_emod_of_nonneg (by omega)]; rfl, rfl⟩
theorem mod_three (i s : Nat) : ((3 * (i : Int) + 1).tmod (s : Int) = (((3 * i + 1) % s : Nat) : Int)) ∧ ((3 * (i : Int) + 1) % (s : Int) = (((3 * i + 1) % s : Nat) : Int)) :=
  ⟨by rw [Int.tmod_eq_emod_of_nonneg (by omega)]; rfl, rfl⟩

set_option maxHeartbeats 400000 in
theorem sparse_any (j i s : Nat) (hj : j ≤ 1000) (hi : i ≤ 1000) (hs0 : 0 < s) (hs : s ≤ 1000) (w : World) :
    Calls Tryz.prog 114 #[.int .i64 (j : Int), .int .i64 (i : Int), .int .i64 (s : Int)] w fun e w' => e = .returned (.int .u8 ((sparN s j i : Nat) : Int)) ∧ w = w' := by
  obtain ⟨e1, e2⟩ := mod_two i s
  obtain ⟨e3, e4⟩ := mod_three i s
  have hr := Nat.mod_lt i hs0
  have hq := Nat.mod_lt (3 * i + 1) hs0
  have hz : ((s : Int) == 0) = false := by simp; omega
  have hz2 : ¬ ((s : Int) = 0) := by omega
  by_cases h1 : i % s = j
  · have HE : Hid (sparN s j i = 1) := by show _ = _; unfold sparN; rw [if_pos (.inl h1)]
    rw [h1] at e1 e2
    have h3 : ((j : Int) == (j : Int)) = true := by simp
    clear e3 e4 hr hq h1
    go_enter Tryz.func114, Tryz.ntmps114
    go_wp2
    go_ret
    exact ⟨by rw [HE.out]; rfl, rfl⟩
  · have h1b : (((i % s : Nat) : Int) == (j : Int)) = false := by simp; omega
    by_cases h2 : (3 * i + 1) % s = j
    · have HE : Hid (sparN s j i = 1) := by show _ = _; unfold sparN; rw [if_pos (.inr h2)]
      rw [h2] at e3 e4
      have h3 : ((j : Int) == (j : Int)) = true := by simp
      generalize i % s = r at *
      clear hq h2
      go_enter Tryz.func114, Tryz.ntmps114
      go_wp2
      go_ret
      exact ⟨by rw [HE.out]; rfl, rfl⟩
    · have HE : Hid (sparN s j i = 0) := by show _ = _; unfold sparN; rw [if_neg (by omega)]
      have h2b : ((((3 * i + 1) % s : Nat) : Int) == (j : Int)) = false := by simp; omega
      generalize i % s = r at *
      generalize (3 * i + 1) % s = q at *
      go_enter Tryz.func114, Tryz.ntmps114
      go_wp2
      go_ret
      exact ⟨by rw [HE.out]; rfl, rfl⟩

theorem dense_any (d i : Nat) (hd : d < 2) (hi : i ≤ 1000) (w : World) :
    Calls Tryz.prog 115 #[.int .i64 (d : Int), .int .i64 (i : Int)] w fun e w' => e = .returned (.int .u8 ((powI 2 (((i + 1) * (d + 1) : Nat) : Int) : Nat) : Int)) ∧ w = w' := by
  obtain ⟨n, hn⟩ : ∃ n : Nat, n = (i + 1) * (d + 1) := ⟨_, rfl⟩
  have hb : n ≤ 2002 := by
    rw [hn]
    exact Nat.le_trans (Nat.mul_le_mul (show i + 1 ≤ 1001 by omega) (show d + 1 ≤ 2 by omega)) (by omega)
  have e : ((i : Int) + 1) * ((d : Int) + 1) = (n : Int) := by rw [hn]; simp
  rw [← hn]
  clear hn
  have HP := Lib.hid (pow_any 2 (n : Int) (by omega) (by omega) (by omega))
  go_enter Tryz.func115, Tryz.ntmps115
  go_wp2_with (go_at_call 124; refine (HP.out _).mono ?_; rintro e w' ⟨rfl, rfl⟩)
  go_ret
  exact ⟨rfl, rfl⟩
end Go.Proofs.YtcopjbapglndgaaGreatDoor
end

section
namespace Go.Proofs.YtcopjbapglndgaaGreatDoor
set_option linter.unusedVariables false

def up13 (x : Nat) : Nat := x ^^^ (x * 8192 % 4294967296)
def dn17 (x : Nat) : Nat := x ^^^ (x / 131072)
def up5 (x : Nat) : Nat := x ^^^ (x * 32 % 4294967296)
/-- The next state. -/
def nextN (x : Nat) : Nat := up5 (dn17 (up13 x))
theorem up13_lt {x : Nat} (h : x < 4294967296) : up13 x < 4294967296 := Nat.xor_lt_two_pow (n := 32) h (Nat.mod_lt _ (by omega))
theorem dn17_lt {x : Nat} (h : x < 4294967296) : dn17 x < 4294967296 := Nat.xor_lt_two_pow (n := 32) h (Nat.lt_of_le_of_lt (Nat.div_le_self _ _) h)
theorem up5_lt {x : Nat} (h : x < 4294967296) : up5 x < 4294967296 := Nat.xor_lt_two_pow (n := 32) h (Nat.mod_lt _ (by omega))
theorem nextN_lt {x : Nat} (h : x < 4294967296) : nextN x < 4294967296 := up5_lt (dn17_lt (up13_lt h))
/-- The first state. -/
def beginN (s : Nat) : Nat := if s ^^^ 2654435769 = 0 then 1 else s ^^^ 2654435769
theorem beginN_lt {s : Nat} (h : s < 4294967296) : beginN s < 4294967296 := by
  unfold beginN
  split
  · omega
  · exact Nat.xor_lt_two_pow (n := 32) h (by omega)
/-- The degree that a draw has. -/
def degN (d : Nat) : Nat := if d < 16 then 1 else if d < 528 then 2 else if d < 696 then 3 else if d < 780 then 4 else if d < 860 then 6 else if d < 930 then 10 else if d < 980 then 18 else 34
theorem degN_le (d : Nat) : 1 ≤ degN d ∧ degN d ≤ 34 := by
  unfold degN
  repeat' split
  all_goals omega
/-- At most n, at least 1. -/
def capI (d : Nat) (n : Int) : Int := max 1 (min n (d : Int))
def seedN (k i : Nat) : Nat := (i * 2654435761 + k * 40503) % 4294967296
end Go.Proofs.YtcopjbapglndgaaGreatDoor
end

section
namespace Go.Proofs.YtcopjbapglndgaaGreatDoor
open Go.ChangeShapes Go.WideShapes Go.ChangeAt Go.RowKit Go.Joins
set_option linter.unusedVariables false

abbrev Cs := List (Nat × Nat)
theorem getC {l : Cs} {k : Nat} (h : k < l.length) : l.getD k (0, 0) = l[k] := by simp [List.getD, h]
def encCl (l : Cs) : List Value := l.flatMap fun p => [.int .i64 (p.1 : Int), .int .u8 (p.2 : Int)]
theorem encCl_len : ∀ l : Cs, (encCl l).length = l.length * 2
  | [] => rfl
  | x :: l => by
    have := encCl_len l
    unfold encCl at this ⊢
    simp only [List.flatMap_cons, List.length_append, this, List.length_cons]
    simp; omega
theorem encCl_app (l m : Cs) : encCl (l ++ m) = encCl l ++ encCl m := by simp [encCl]
theorem encCl_get {l : Cs} : ∀ {i : Nat} (h : i < l.length), (encCl l)[i * 2]? = some (.int .i64 ((l[i].1 : Nat) : Int)) ∧ (encCl l)[i * 2 + 1]? = some (.int .u8 ((l[i].2 : Nat) : Int)) := by
  induction l with
  | nil => intro i h; simp at h
  | cons x l ih =>
    intro i h
    have e : encCl (x :: l) = [.int .i64 (x.1 : Int), .int .u8 (x.2 : Int)] ++ encCl l := rfl
    rw [e]
    cases i with
    | zero => exact ⟨rfl, rfl⟩
    | succ i =>
      have := ih (i := i) (by simpa using h)
      simp only [List.getElem_cons_succ]
      refine ⟨?_, ?_⟩
      · rw [List.getElem?_append_right (by simp; omega), show (i + 1) * 2 - [Value.int .i64 (x.1 : Int), .int .u8 (x.2 : Int)].length = i * 2 by simp; omega]; exact this.1
      · rw [List.getElem?_append_right (by simp; omega), show (i + 1) * 2 + 1 - [Value.int .i64 (x.1 : Int), .int .u8 (x.2 : Int)].length = i * 2 + 1 by simp; omega]; exact this.2

theorem infoP : (Tryz.prog.info? 129).map (fun i => (i.zero, i.size, i.bytes)) = some (some (.agg #[.int .i64 0, .int .u8 0]), 2, 16) := by kernel_rfl
theorem info_p {z : Value} {s b : Nat} {t : TypeId} (h : (Tryz.prog.info? t).map (fun i => (i.zero, i.size, i.bytes)) = some (some z, s, b)) : ∃ i, Tryz.prog.info? t = some i ∧ i.zero = some z ∧ i.size = s ∧ i.bytes = b := by
  cases hi : Tryz.prog.info? t with
  | none => rw [hi] at h; cases h
  | some i =>
    rw [hi] at h
    simp only [Option.map_some, Option.some.injEq, Prod.mk.injEq] at h
    exact ⟨i, rfl, h.1, h.2.1, h.2.2⟩

/-- The slice '.slice a l.length cap' reads as these cells; they lie from block B on. -/
structure Ct (B : Nat) (w : World) (a : Option Addr) (cap : Nat) (l : Cs) : Prop where
  len : l.length ≤ cap
  most : cap ≤ maxLen
  none : a = none → l = []
  here : l = [] ∨ ∃ b, a = some ⟨b, 0, Option.none⟩ ∧ B ≤ b ∧ b < w.heap.size ∧ ∀ i (h : i < l.length), w.cell? ⟨b, i * 2, Option.none⟩ = some (.int .i64 ((l[i].1 : Nat) : Int)) ∧ w.cell? ⟨b, i * 2 + 1, Option.none⟩ = some (.int .u8 ((l[i].2 : Nat) : Int))
theorem Ct.lt {B : Nat} {w : World} {a : Option Addr} {cap : Nat} {l : Cs} (h : Ct B w a cap l) : l.length ≤ 9223372036854775807 := by
  have h1 := h.len; have h2 := h.most; unfold maxLen at h2; omega
theorem Ct.some {B : Nat} {w : World} {a : Option Addr} {cap : Nat} {l : Cs} (h : Ct B w a cap l) {k : Nat} (hk : k < l.length) : ∃ b, a = some ⟨b, 0, Option.none⟩ ∧ B ≤ b ∧ b < w.heap.size ∧ w.cell? ⟨b, k * 2, Option.none⟩ = some (.int .i64 ((l[k].1 : Nat) : Int)) ∧ w.cell? ⟨b, k * 2 + 1, Option.none⟩ = some (.int .u8 ((l[k].2 : Nat) : Int)) := by
  rcases h.here with rfl | ⟨b, e, hB, hb, hc⟩
  · simp at hk
  · exact ⟨b, e, hB, hb, hc k hk⟩
theorem Ct.of_block {B : Nat} {w w' : World} {a : Option Addr} {cap : Nat} {l : Cs} (h : Ct B w a cap l) (hs : w.heap.size ≤ w'.heap.size) (hb : ∀ b, B ≤ b → b < w.heap.size → w'.heap[b]? = w.heap[b]?) : Ct B w' a cap l := by
  refine ⟨h.len, h.most, h.none, ?_⟩
  rcases h.here with e | ⟨b, e, hB, hlt, hc⟩
  · exact .inl e
  · refine .inr ⟨b, e, hB, by omega, fun i hi => ?_⟩
    have e1 := World.cell?_of_block (w := w) (w' := w') (a := ⟨b, i * 2, Option.none⟩) (hb b hB hlt)
    have e2 := World.cell?_of_block (w := w) (w' := w') (a := ⟨b, i * 2 + 1, Option.none⟩) (hb b hB hlt)
    rw [e1, e2]; exact hc i hi
theorem Ct.below {B : Nat} {w w' : World} {a : Option Addr} {cap : Nat} {l : Cs} (h : Ct B w a cap l) (k : Below w.heap.size w w') : Ct B w' a cap l := h.of_block k.size fun b _ hb => k.block b hb

/-- A slice of cells that this call makes, by append. -/
def OwnC (B : Nat) (w : World) (v : Value) (l : Cs) : Prop := w.ownsRow B 129 2 v l.length (encCl l)
theorem OwnC.nil (B : Nat) (w : World) : OwnC B w (.slice none 0 0) [] := World.ownsRow_nil _ _ _ _
theorem OwnC.below {B : Nat} {w w' : World} {v : Value} {l : Cs} (h : OwnC B w v l) (k : Below w.heap.size w w') : OwnC B w' v l := by
  refine World.ownsRow.kept (row := none) h ⟨k.os, k.tape, k.output, k.size, fun j hj _ => k.block j hj⟩ ?_
  cases hv : v.ownBlock with
  | none => exact .inl rfl
  | some g => exact .inr (by simp)
theorem OwnC.form {B : Nat} {w : World} {v : Value} {l : Cs} (h : OwnC B w v l) : ∃ a cap, v = .slice a l.length cap ∧ Ct B w a cap l := by
  rcases h.2 with ⟨rfl, hn⟩ | ⟨g, cap, cur, rfl, hb, hh, h1, h2, h3, h4⟩
  · have : l = [] := List.eq_nil_of_length_eq_zero hn
    subst this
    exact ⟨none, 0, rfl, by simp, by simp, fun _ => rfl, .inl rfl⟩
  · refine ⟨_, cap, rfl, h1, h2, fun e => (by cases e), .inr ⟨g, rfl, hb, (Array.getElem?_eq_some_iff.1 hh).1, fun i hi => ?_⟩⟩
    have hc := World.ownsRow.cells (v := .slice (some ⟨g, 0, none⟩) l.length cap) h (g := g) rfl
    have hadd : ∀ j, (⟨g, 0, none⟩ : Addr).add j = ⟨g, j, none⟩ := fun j => by
      by_cases j0 : j = 0
      · subst j0; simp [Addr.add]
      · simp [Addr.add, j0]
    obtain ⟨e1, e2⟩ := encCl_get hi
    have c1 := hc _ _ e1
    have c2 := hc _ _ e2
    rw [hadd] at c1 c2
    exact ⟨c1, c2⟩
theorem OwnC.lower {A B : Nat} {w : World} {v : Value} {l : Cs} (h : OwnC B w v l) (k : A ≤ B) : OwnC A w v l := by
  refine ⟨h.1, ?_⟩
  rcases h.2 with e | ⟨g, cap, cur, e, hb, r⟩
  · exact .inl e
  · exact .inr ⟨g, cap, cur, e, by omega, r⟩
theorem OwnC.push_below {B : Nat} {w w' : World} {v : Value} {l : Cs} (h : OwnC B w v l) (hg : w.grownBy w' v.ownBlock) (hB : B ≤ w.heap.size) : Below B w w' :=
  ⟨hg.os, hg.tape, hg.output, hg.size, fun k hk => hg.block k (by omega) fun e => by
    have := (World.ownsRow.lt h k e.symm).1; omega⟩

theorem wpList_push_cell {ops : Array Oper} {rest : List Oper} {o : Oper} {a : Act} {Q : Exit → Act → World → Prop} (w : World) (hgd : o.guard = none) (s x : Operand)
    (ho : o.op = .call { callee := .builtin .append, args := #[s, x], argTypes := #[126, 126] })
    (B : Nat) (v : Value) (l : Cs) (hs : a.eval s = v) (hown : OwnC B w v l) (g : Nat) (hx : a.eval x = .slice (some ⟨g, 0, none⟩) 1 1)
    (p q : Nat) (h0 : w.cell? ⟨g, 0, none⟩ = some (.int .i64 (p : Int))) (h1 : w.cell? ⟨g, 1, none⟩ = some (.int .u8 (q : Int))) (hB : B ≤ w.heap.size) (hlen : l.length ≤ 1000000)
    (h : ∀ v' w', Hid (OwnC B w' v' (l ++ [(p, q)])) → Hid (Below B w w') → wpList Tryz.prog ops Q rest (a.put o.dst v') w') : wpList Tryz.prog ops Q (o :: rest) a w := by
  obtain ⟨i0, hi, hz0, hz1, hz2⟩ := info_p infoP
  have hn : ∀ j u, [Value.int .i64 (p : Int), .int .u8 (q : Int)][j]? = some u → w.cell? ((⟨g, 0, none⟩ : Addr).add j) = some u := fun j u hj => by
    match j, hj with
    | 0, hj => simp at hj; subst hj; simpa [Addr.add] using h0
    | 1, hj => simp at hj; subst hj; simpa [Addr.add] using h1
  refine wpList_append_own w hgd s x 126 ho B 129 i0 (.agg #[.int .i64 0, .int .u8 0]) 2 16 Tryz.underlying126 hi hz0 hz1 hz2 rfl (by decide) v l.length _ hs hown ⟨g, 0, none⟩ 1 1 [.int .i64 (p : Int), .int .u8 (q : Int)] hx rfl hn (by simp [Value.oneCell']) (by unfold maxLen; omega) (by omega) hB ?_
  intro v' w' k1 k2 _
  refine h v' w' ?_ (hown.push_below k2 hB)
  show OwnC B w' v' (l ++ [(p, q)])
  unfold OwnC
  rw [List.length_append, encCl_app]
  exact k1

/-- The first k numbers that aren't 0. -/
def cellsTo (l : List Nat) (k : Nat) : Cs := (List.range k).filterMap fun i => if l.getD i 0 = 0 then none else some (i, l.getD i 0)
theorem cellsTo_zero {l : List Nat} {k : Nat} (h : l.getD k 0 = 0) : cellsTo l (k + 1) = cellsTo l k := by
  unfold cellsTo
  rw [List.range_succ, List.filterMap_append]
  simp only [List.filterMap_cons, List.filterMap_nil, h, if_true, List.append_nil]
theorem cellsTo_more {l : List Nat} {k : Nat} (h : l.getD k 0 ≠ 0) : cellsTo l (k + 1) = cellsTo l k ++ [(k, l.getD k 0)] := by
  unfold cellsTo
  rw [List.range_succ, List.filterMap_append]
  simp only [List.filterMap_cons, List.filterMap_nil, h, if_false]
theorem cellsTo_len (l : List Nat) (k : Nat) : (cellsTo l k).length ≤ k := by
  unfold cellsTo
  exact Nat.le_trans (List.length_filterMap_le _ _) (by simp)

def CellsPost (l : Cs) (w : World) (e : Ending) (w' : World) : Prop := ∃ v, e = .returned v ∧ OwnC w.heap.size w' v l ∧ Below w.heap.size w w'

set_option maxHeartbeats 800000 in
theorem cells_any (a : Option Addr) (cap : Nat) (l : List Nat) (w : World) (hl : l.length ≤ 1000000) (hs : Sl w a cap l) :
    Calls Tryz.prog 73 #[.slice a l.length cap] w (CellsPost (cellsTo l l.length) w) := by
  have HS := Lib.hid hs
  have HO0 : Hid (OwnC w.heap.size w (.slice none 0 0) (cellsTo l 0)) := OwnC.nil _ _
  have HB0 : Hid (Below w.heap.size w w) := Below.refl _ _
  clear hs
  go_enter Tryz.func73, Tryz.ntmps73
  go_wp2_with fail
  go_loopw [3, 8] (fun v i wr => ∃ k : Nat, k ≤ l.length ∧ i = .int .i64 k ∧ Hid (OwnC w.heap.size wr v (cellsTo l k)) ∧ Hid (Below w.heap.size w wr)) (fun _ i _ => l.length - (intOf i).toNat)
  case atStart => exact ⟨0, by omega, rfl, HO0, HB0⟩
  case round =>
    obtain ⟨k, hk, rfl, HO, HB⟩ := hrel
    by_cases hlt : k < l.length
    · obtain ⟨b, off, rfl, hb⟩ := (HS.out.below HB.out).some hlt
      have hck := hb k hlt
      have hx : l[k] < 256 := HS.out.byte _ (List.getElem_mem hlt)
      have HZ : Hid (l[k] = 0 → cellsTo l (k + 1) = cellsTo l k) := fun e => cellsTo_zero (by rw [getD_get hlt]; exact e)
      have HM : Hid (l[k] ≠ 0 → cellsTo l (k + 1) = cellsTo l k ++ [(k, l[k])]) := fun e => by rw [cellsTo_more (by rw [getD_get hlt]; exact e), getD_get hlt]
      have hlen : (cellsTo l k).length ≤ 1000000 := by have := cellsTo_len l k; omega
      generalize l[k] = x at *
      clear hb
      by_cases hx0 : x = 0
      · have hz : ((x : Int) != 0) = false := by subst hx0; rfl
        have HE := Lib.hid (HZ.out hx0)
        clear HZ HM hx0 HO0 HB0
        go_wp2_with fail
        go_roundw
        case rel => exact ⟨k + 1, by omega, by go_num, by rw [HE.out]; exact HO, HB⟩
        case measure => simp [intOf]; omega
      · have hz : ((x : Int) != 0) = true := by simp; omega
        have HE := Lib.hid (HM.out hx0)
        clear HZ HM hx0 HO0 HB0
        go_wp2_with (at_builtin; refine wpList_push_cell _ rfl _ _ rfl w.heap.size _ _ rfl (HO.out.below ((Below.refl _ _).alloc (Nat.le_refl _) _)) wr.heap.size rfl k x (by simp) (by simp) (by have := HB.out.size; simp; omega) hlen ?_; intro v' w2 HO2 HB2)
        have HB3 : Hid (Below w.heap.size w w2) := (HB.out.alloc HB.out.size _).trans HB2.out
        clear HB2
        go_roundw
        case rel => exact ⟨k + 1, by omega, by go_num, by rw [HE.out]; exact HO2, HB3⟩
        case measure => simp [intOf]; omega
    · obtain rfl : k = l.length := by omega
      go_wp2_with fail
      go_ret
      exact ⟨_, rfl, HO.out, HB.out⟩
end Go.Proofs.YtcopjbapglndgaaGreatDoor
end

section
namespace Go.Proofs.YtcopjbapglndgaaGreatDoor
set_option linter.unusedVariables false

/-- From a place on, the first one that isn't taken; f looks. -/
def goN (l : List Nat) : Nat → Nat → Nat
  | a, 0 => a
  | a, f + 1 => if l.getD a 0 = 0 then a else goN l ((a + 1) % l.length) f
/-- One that isn't taken is among the next f. -/
def FreeIn (l : List Nat) (a f : Nat) : Prop := ∃ s, s < f ∧ l.getD ((a + s) % l.length) 0 = 0
theorem FreeIn.pos {l : List Nat} {a f : Nat} (h : FreeIn l a f) : 0 < f := by obtain ⟨s, h1, _⟩ := h; omega
theorem FreeIn.next {l : List Nat} {a f : Nat} (h : FreeIn l a (f + 1)) (ha : a < l.length) (h0 : l.getD a 0 ≠ 0) : FreeIn l ((a + 1) % l.length) f := by
  obtain ⟨s, h1, h2⟩ := h
  cases s with
  | zero => rw [Nat.add_zero, Nat.mod_eq_of_lt ha] at h2; exact absurd h2 h0
  | succ s =>
    refine ⟨s, by omega, ?_⟩
    rw [Nat.mod_add_mod, show a + 1 + s = a + (s + 1) by omega]; exact h2
theorem FreeIn.all {l : List Nat} {a j : Nat} (ha : a < l.length) (hj : j < l.length) (h0 : l.getD j 0 = 0) : FreeIn l a l.length := by
  by_cases h : a ≤ j
  · refine ⟨j - a, by omega, ?_⟩
    rw [show a + (j - a) = j by omega, Nat.mod_eq_of_lt hj]; exact h0
  · refine ⟨l.length + j - a, by omega, ?_⟩
    rw [show a + (l.length + j - a) = j + l.length by omega, Nat.add_mod_right, Nat.mod_eq_of_lt hj]; exact h0
theorem goN_lt {l : List Nat} : ∀ (f a : Nat), a < l.length → goN l a f < l.length
  | 0, a, h => h
  | f + 1, a, h => by
    unfold goN
    split
    · exact h
    · exact goN_lt f _ (Nat.mod_lt _ (by omega))
theorem goN_free {l : List Nat} : ∀ (f a : Nat), a < l.length → FreeIn l a f → l.getD (goN l a f) 0 = 0
  | 0, a, _, h => absurd h.pos (by omega)
  | f + 1, a, ha, h => by
    unfold goN
    split
    · rename_i h0; exact h0
    · rename_i h0; exact goN_free f _ (Nat.mod_lt _ (by omega)) (h.next ha h0)

/-- How many are taken. -/
def takenN (l : List Nat) : Nat := (l.filter fun x => x != 0).length
theorem taken_none (n : Nat) : takenN (List.replicate n 0) = 0 := by simp [takenN]
theorem taken_set : ∀ (l : List Nat) (i v : Nat), takenN (l.set i v) ≤ takenN l + 1
  | [], i, v => by simp [takenN]
  | x :: l, 0, v => by
    simp only [List.set_cons_zero, takenN, List.filter_cons]
    split <;> split <;> simp <;> omega
  | x :: l, i + 1, v => by
    have := taken_set l i v
    simp only [List.set_cons_succ, takenN, List.filter_cons] at this ⊢
    split <;> simp <;> omega
theorem taken_free : ∀ {l : List Nat}, takenN l < l.length → ∃ j, j < l.length ∧ l.getD j 0 = 0
  | [], h => by simp at h
  | x :: l, h => by
    by_cases h0 : x = 0
    · exact ⟨0, by simp, by simp [h0]⟩
    · have h1 : takenN l < l.length := by
        simp only [takenN, List.filter_cons, List.length_cons] at h ⊢
        rw [if_pos (by simpa using h0), List.length_cons] at h
        omega
      obtain ⟨j, hj, e⟩ := taken_free h1
      exact ⟨j + 1, by simpa using hj, by simpa using e⟩

/-- One more place: the state and the numbers. -/
def stepD (n : Nat) (s : Nat × List Nat) : Nat × List Nat := (nextN (nextN s.1), s.2.set (goN s.2 (nextN s.1 % n) n) (1 + nextN (nextN s.1) % 255))
def drawD (x n : Nat) : Nat → Nat × List Nat
  | 0 => (x, List.replicate n 0)
  | d + 1 => stepD n (drawD x n d)
theorem drawD_state {x : Nat} (h : x < 4294967296) (n : Nat) : ∀ d, (drawD x n d).1 < 4294967296
  | 0 => h
  | d + 1 => nextN_lt (nextN_lt (drawD_state h n d))
theorem drawD_len (x n : Nat) : ∀ d, (drawD x n d).2.length = n
  | 0 => by simp [drawD]
  | d + 1 => by
    show (List.set _ _ _).length = n
    rw [List.length_set]; exact drawD_len x n d
theorem set_byte {l : List Nat} (h : IsByte l) (i v : Nat) (hv : v < 256) : IsByte (l.set i v) := fun m hm => by
  rcases List.mem_or_eq_of_mem_set hm with h1 | h1
  · exact h m h1
  · omega
theorem drawD_byte (x n : Nat) : ∀ d, IsByte (drawD x n d).2
  | 0 => fun m hm => by have := (List.mem_replicate.1 hm).2; omega
  | d + 1 => set_byte (drawD_byte x n d) _ _ (by have := Nat.mod_lt (nextN (nextN (drawD x n d).1)) (show 0 < 255 by omega); omega)
theorem drawD_taken (x n : Nat) : ∀ d, takenN (drawD x n d).2 ≤ d
  | 0 => by show takenN (List.replicate n 0) ≤ 0; rw [taken_none]; exact Nat.le_refl _
  | d + 1 => by
    have := drawD_taken x n d
    have h2 := taken_set (drawD x n d).2 (goN (drawD x n d).2 (nextN (drawD x n d).1 % n) n) (1 + nextN (nextN (drawD x n d).1) % 255)
    show takenN (List.set _ _ _) ≤ _
    omega
theorem drawD_free (x n d a : Nat) (hd : d < n) (ha : a < n) : FreeIn (drawD x n d).2 a n := by
  have hl := drawD_len x n d
  obtain ⟨j, hj, e⟩ := taken_free (l := (drawD x n d).2) (by have := drawD_taken x n d; omega)
  have := FreeIn.all (l := (drawD x n d).2) (a := a) (by omega) hj e
  rwa [hl] at this

/-- The numbers that are drawn from a state on. -/
def drawnN (x n : Nat) : List Nat := (drawD (nextN x) n (capI (degN (nextN x % 1024)) (n : Int)).toNat).2
/-- The places of the symbol of an ID over k sources, 0 where none is. -/
def numsN (k id : Nat) : List Nat := drawnN (beginN (seedN k id)) (k + (spN k + 2))
theorem drawnN_len (x n : Nat) : (drawnN x n).length = n := drawD_len _ _ _
theorem drawnN_byte (x n : Nat) : IsByte (drawnN x n) := drawD_byte _ _ _
theorem numsN_len (k id : Nat) : (numsN k id).length = k + (spN k + 2) := drawnN_len _ _
theorem numsN_byte (k id : Nat) : IsByte (numsN k id) := drawnN_byte _ _
def picksN (k id : Nat) : Cs := cellsTo (numsN k id) (numsN k id).length
theorem cellsTo_mem {l : List Nat} {k : Nat} {p : Nat × Nat} (h : p ∈ cellsTo l k) : p.1 < k ∧ l.getD p.1 0 = p.2 ∧ p.2 ≠ 0 := by
  unfold cellsTo at h
  obtain ⟨i, hi, e⟩ := List.mem_filterMap.1 h
  have hik := List.mem_range.1 hi
  by_cases h0 : l.getD i 0 = 0
  · rw [if_pos h0] at e; cases e
  · rw [if_neg h0] at e
    cases e
    exact ⟨hik, rfl, h0⟩
theorem picksN_mem {k id : Nat} {p : Nat × Nat} (h : p ∈ picksN k id) : p.1 < k + (spN k + 2) ∧ p.2 < 256 ∧ p.2 ≠ 0 := by
  obtain ⟨h1, h2, h3⟩ := cellsTo_mem h
  rw [numsN_len] at h1
  refine ⟨h1, ?_, h3⟩
  rw [← h2]; exact getD_lt (numsN_byte k id) _

/-- A pick is added to a row. -/
def addPick (k : Nat) (row : List Nat) (p : Nat × Nat) : List Nat := if p.1 < k then row.set p.1 (row.getD p.1 0 ^^^ p.2) else plusN row (parRow k (p.1 - k)) p.2
/-- The row, the first i picks added. -/
def rowTo (k : Nat) (l : Cs) : Nat → List Nat
  | 0 => List.replicate k 0
  | i + 1 => addPick k (rowTo k l i) (l.getD i (0, 0))
theorem rowTo_ok {k : Nat} {l : Cs} (h : ∀ p ∈ l, p.2 < 256) : ∀ i, i ≤ l.length → (rowTo k l i).length = k ∧ IsByte (rowTo k l i)
  | 0, _ => ⟨by simp [rowTo], fun m hm => by have := (List.mem_replicate.1 hm).2; omega⟩
  | i + 1, hi => by
    obtain ⟨h1, h2⟩ := rowTo_ok (k := k) h i (by omega)
    have hp : (l.getD i (0, 0)).2 < 256 := by
      have : l.getD i (0, 0) = l[i] := by simp [List.getD, show i < l.length by omega]
      rw [this]; exact h _ (List.getElem_mem _)
    show (addPick k _ _).length = k ∧ IsByte (addPick k _ _)
    unfold addPick
    split
    · exact ⟨by rw [List.length_set]; exact h1, set_byte h2 _ _ (Nat.xor_lt_two_pow (n := 8) (getD_lt h2 _) hp)⟩
    · exact ⟨by rw [plusN_len _ _ _ (by rw [h1, parRow_len]; exact Nat.le_refl _), h1], plusN_byte _ _ _ h2 (parRow_byte _ _)⟩
/-- The row of the symbol of an ID. -/
def rowN (k id : Nat) : List Nat := rowTo k (picksN k id) (picksN k id).length
theorem rowN_ok (k id : Nat) : (rowN k id).length = k ∧ IsByte (rowN k id) := rowTo_ok (fun p hp => (picksN_mem hp).2.1) _ (Nat.le_refl _)
end Go.Proofs.YtcopjbapglndgaaGreatDoor
end

section
namespace Go.Proofs.YtcopjbapglndgaaGreatDoor
set_option linter.unusedVariables false

theorem plus_nought (l m : List Nat) (h : l.length ≤ m.length) : plusN l m 0 = l := by
  apply List.ext_getElem (plusN_len l m 0 h)
  intro i h1 h2
  rw [plusN_get l m 0 i h1 h2 (by omega), mul_zero, Nat.xor_zero]

/-- The sum of sources, each times the number of its cell. -/
def celTo (v : Rws) (m : Nat) (cs : Cs) : List Nat := cs.foldl (fun acc p => plusN acc (v.getD p.1 []) p.2) (List.replicate m 0)
theorem celTo_snoc (v : Rws) (m : Nat) (cs : Cs) (p : Nat × Nat) : celTo v m (cs ++ [p]) = plusN (celTo v m cs) (v.getD p.1 []) p.2 := by simp [celTo]
theorem celTo_next (v : Rws) (m : Nat) (cs : Cs) (j : Nat) (h : j < cs.length) : celTo v m (cs.take (j + 1)) = plusN (celTo v m (cs.take j)) (v.getD cs[j].1 []) cs[j].2 := by
  rw [List.take_succ_eq_append_getElem h, celTo_snoc]
theorem getR_len {v : Rws} {m i : Nat} (hv : ∀ x ∈ v, x.length = m) (h : i < v.length) : (v.getD i []).length = m := by
  rw [getR h]; exact hv _ (List.getElem_mem h)
theorem celTo_ok {v : Rws} {m : Nat} (hv : ∀ x ∈ v, x.length = m) (hb : ∀ x ∈ v, IsByte x) : ∀ (n : Nat) (cs : Cs), cs.length = n → (∀ p ∈ cs, p.1 < v.length) → (celTo v m cs).length = m ∧ IsByte (celTo v m cs)
  | 0, cs, hn, _ => by
    obtain rfl : cs = [] := List.length_eq_zero_iff.1 hn
    exact ⟨by simp [celTo], fun x hx => by have := (List.mem_replicate.1 hx).2; omega⟩
  | n + 1, cs, hn, hc => by
    have hne : cs ≠ [] := fun e => by rw [e] at hn; simp at hn
    have e := List.dropLast_concat_getLast hne
    have hp := hc _ (List.getLast_mem hne)
    obtain ⟨h1, h2⟩ := celTo_ok hv hb n cs.dropLast (by simp; omega) fun p hp => hc p (List.dropLast_subset cs hp)
    rw [← e, celTo_snoc]
    refine ⟨?_, plusN_byte _ _ _ h2 ?_⟩
    · rw [plusN_len _ _ _ (by rw [h1, getR_len hv hp]; exact Nat.le_refl _), h1]
    · rw [getR hp]; exact hb _ (List.getElem_mem hp)
theorem cel_sym {v : Rws} {m : Nat} {row : List Nat} (hv : ∀ x ∈ v, x.length = m) (hb : ∀ x ∈ v, IsByte x) : ∀ k, k ≤ v.length → celTo v m (cellsTo row k) = symTo v m row k
  | 0, _ => rfl
  | k + 1, hk => by
    have hl : (v.getD k []).length = m := getR_len hv hk
    have hf : fillN (v.getD k []) m = v.getD k [] := by
      have := fillN_self (v.getD k [])
      rwa [hl] at this
    have ih := cel_sym (row := row) hv hb k (by omega)
    have hs := (symTo_ok (m := m) (row := row) hb k (by omega)).1
    show _ = plusN (symTo v m row k) (fillN (v.getD k []) m) (row.getD k 0)
    rw [hf]
    by_cases h0 : row.getD k 0 = 0
    · rw [cellsTo_zero h0, h0, plus_nought _ _ (by rw [hs, hl]; exact Nat.le_refl _), ih]
    · rw [cellsTo_more h0, celTo_snoc, ih]

/-! The document's row. -/

/-- The first k picks, and the parities, each times its pick. -/
def docTo (k : Nat) (l : List Nat) : Nat → List Nat
  | 0 => l.take k
  | j + 1 => plusN (docTo k l j) (parRow k j) (l.getD (k + j) 0)
theorem docTo_ok {k : Nat} {l : List Nat} (hl : k ≤ l.length) (hb : IsByte l) : ∀ j, (docTo k l j).length = k ∧ IsByte (docTo k l j)
  | 0 => ⟨by simp [docTo]; omega, fun n hn => hb n (List.mem_of_mem_take hn)⟩
  | j + 1 => by
    obtain ⟨h1, h2⟩ := docTo_ok hl hb j
    exact ⟨by show (plusN _ _ _).length = k; rw [plusN_len _ _ _ (by rw [h1, parRow_len]; exact Nat.le_refl _), h1], plusN_byte _ _ _ h2 (parRow_byte _ _)⟩
theorem rowTo_fold (k : Nat) (cs : Cs) : ∀ i, i ≤ cs.length → rowTo k cs i = (cs.take i).foldl (addPick k) (List.replicate k 0)
  | 0, _ => rfl
  | i + 1, h => by
    show addPick k (rowTo k cs i) (cs.getD i (0, 0)) = _
    rw [rowTo_fold k cs i (by omega), List.take_succ_eq_append_getElem (show i < cs.length by omega), getC (show i < cs.length by omega), List.foldl_append]
    rfl
theorem fold_low (k : Nat) (l : List Nat) (hl : k ≤ l.length) : ∀ i, i ≤ k → (cellsTo l i).foldl (addPick k) (List.replicate k 0) = l.take i ++ List.replicate (k - i) 0
  | 0, _ => by simp [cellsTo]
  | i + 1, h => by
    have ih := fold_low k l hl i (by omega)
    have hil : i < l.length := by omega
    have hti : (l.take i).length = i := by simp; omega
    have e1 : List.replicate (k - i) 0 = 0 :: List.replicate (k - (i + 1)) 0 := by
      rw [show k - i = (k - (i + 1)) + 1 by omega, List.replicate_succ]
    by_cases h0 : l.getD i 0 = 0
    · rw [cellsTo_zero h0, ih, List.take_succ_eq_append_getElem hil, e1]
      rw [getD_get hil] at h0
      rw [h0, List.append_assoc]; rfl
    · rw [cellsTo_more h0, List.foldl_append, ih]
      simp only [List.foldl_cons, List.foldl_nil]
      unfold addPick
      rw [if_pos (show i < k by omega), e1]
      have hg : (l.take i ++ (0 :: List.replicate (k - (i + 1)) 0)).getD i 0 = 0 := by
        rw [List.getD_eq_getElem?_getD, List.getElem?_append_right (by omega), hti]; simp
      rw [hg, Nat.zero_xor, List.set_append_right _ _ (by omega), hti, Nat.sub_self, List.set_cons_zero, List.take_succ_eq_append_getElem hil, getD_get hil, List.append_assoc]
      rfl
theorem fold_high (k : Nat) (l : List Nat) (hl : k ≤ l.length) (hb : IsByte l) : ∀ j, (cellsTo l (k + j)).foldl (addPick k) (List.replicate k 0) = docTo k l j
  | 0 => by
    have := fold_low k l hl k (Nat.le_refl _)
    rw [Nat.add_zero, this]; simp [docTo]
  | j + 1 => by
    have ih := fold_high k l hl hb j
    have hd := (docTo_ok hl hb j).1
    show (cellsTo l (k + j + 1)).foldl _ _ = plusN (docTo k l j) (parRow k j) (l.getD (k + j) 0)
    by_cases h0 : l.getD (k + j) 0 = 0
    · rw [cellsTo_zero h0, ih, h0, plus_nought _ _ (by rw [hd, parRow_len]; exact Nat.le_refl _)]
    · rw [cellsTo_more h0, List.foldl_append, ih]
      simp only [List.foldl_cons, List.foldl_nil]
      unfold addPick
      rw [if_neg (show ¬ k + j < k by omega), show k + j - k = j by omega]
theorem row_doc (k id : Nat) : rowN k id = docTo k (numsN k id) (spN k + 2) := by
  have hl : k ≤ (numsN k id).length := by rw [numsN_len]; omega
  have h := fold_high k (numsN k id) hl (numsN_byte k id) (spN k + 2)
  rw [← h]
  show rowTo k (picksN k id) (picksN k id).length = _
  rw [rowTo_fold k _ _ (Nat.le_refl _), List.take_length]
  show (cellsTo (numsN k id) (numsN k id).length).foldl _ _ = _
  rw [numsN_len]

/-! Sums. -/

theorem mul_turn {y c r : Nat} (hy : y < 256) (hc : c < 256) (hr : r < 256) : mulN (mulN y c) r = mulN (mulN y r) c := by
  rw [← mul_assoc hy hc hr, mul_comm hc hr, mul_assoc hy hr hc]
theorem plus_lin {p q s x y : List Nat} {c r m : Nat} (hc : c < 256) (hr : r < 256) (hp : p.length = m) (hq : q.length = m) (hx : x.length = m) (hy : y.length = m) (hbq : IsByte q) (hbx : IsByte x) (hby : IsByte y) :
    plusN (plusN p q c) (plusN x y c) r = plusN (plusN p x r) (plusN q y r) c := by
  have l1 := plusN_len p q c (by omega)
  have l2 := plusN_len x y c (by omega)
  have l3 := plusN_len p x r (by omega)
  have l4 := plusN_len q y r (by omega)
  apply List.ext_getElem
  · rw [plusN_len (plusN p q c) _ _ (by omega), plusN_len (plusN p x r) _ _ (by omega)]; omega
  · intro i h1 h2
    have hi : i < m := by rw [plusN_len _ _ _ (by omega)] at h1; omega
    rw [plusN_get _ _ r i h1 (by omega) (by omega), plusN_get _ _ c i h2 (by omega) (by omega), plusN_get p q c i _ (by omega) (by omega), plusN_get x y c i _ (by omega) (by omega), plusN_get p x r i _ (by omega) (by omega), plusN_get q y r i _ (by omega) (by omega)]
    have b1 : q[i] < 256 := hbq _ (List.getElem_mem _)
    have b2 : x[i] < 256 := hbx _ (List.getElem_mem _)
    have b3 : y[i] < 256 := hby _ (List.getElem_mem _)
    rw [mul_xor_left r b2 (mulN_lt c b3), mul_xor_left c b1 (mulN_lt r b3), mul_turn b3 hc hr]
    exact xor_swap _ _ _ _

/-- Of two lists of sources of one length the sums, place by place. -/
def addsN (x y : Rws) (c : Nat) : Rws := List.zipWith (fun p q => plusN p q c) x y
theorem addsN_len {x y : Rws} {k : Nat} (c : Nat) (hx : x.length = k) (hy : y.length = k) : (addsN x y c).length = k := by simp [addsN]; omega
theorem addsN_get {x y : Rws} {c i : Nat} (h : i < (addsN x y c).length) (h1 : i < x.length) (h2 : i < y.length) : (addsN x y c)[i] = plusN x[i] y[i] c := by simp [addsN]
theorem addsN_snoc {x y : Rws} {c : Nat} (p q : List Nat) (h : x.length = y.length) : addsN (x ++ [p]) (y ++ [q]) c = addsN x y c ++ [plusN p q c] := by
  unfold addsN
  rw [List.zipWith_append h]; rfl
theorem sym_adds {x y : Rws} {m k c : Nat} {row : List Nat} (hc : c < 256) (hr : IsByte row) (hx : x.length = k) (hy : y.length = k) (h1 : ∀ p ∈ x, p.length = m ∧ IsByte p) (h2 : ∀ p ∈ y, p.length = m ∧ IsByte p) :
    ∀ i, i ≤ k → symTo (addsN x y c) m row i = plusN (symTo x m row i) (symTo y m row i) c
  | 0, _ => by
    show List.replicate m 0 = plusN (List.replicate m 0) (List.replicate m 0) c
    apply List.ext_getElem
    · rw [plusN_len _ _ _ (Nat.le_refl _)]
    · intro i h h'
      rw [plusN_get _ _ c i h' (by simpa using h) (by simpa using h)]
      simp [zero_mul]
  | i + 1, hi => by
    have ih := sym_adds (row := row) hc hr hx hy h1 h2 i (by omega)
    have hxi : i < x.length := by omega
    have hyi : i < y.length := by omega
    have hzi : i < (addsN x y c).length := by rw [addsN_len c hx hy]; omega
    obtain ⟨a1, a2⟩ := h1 _ (List.getElem_mem hxi)
    obtain ⟨b1, b2⟩ := h2 _ (List.getElem_mem hyi)
    have o1 := symTo_ok (m := m) (row := row) (fun p hp => (h1 p hp).2) i (by omega)
    have o2 := symTo_ok (m := m) (row := row) (fun p hp => (h2 p hp).2) i (by omega)
    have f1 : fillN x[i] m = x[i] := by have := fillN_self x[i]; rwa [a1] at this
    have f2 : fillN y[i] m = y[i] := by have := fillN_self y[i]; rwa [b1] at this
    have hz : (plusN x[i] y[i] c).length = m := by rw [plusN_len _ _ _ (by omega), a1]
    have f3 : fillN (plusN x[i] y[i] c) m = plusN x[i] y[i] c := by have := fillN_self (plusN x[i] y[i] c); rwa [hz] at this
    show plusN (symTo (addsN x y c) m row i) (fillN ((addsN x y c).getD i []) m) (row.getD i 0) = plusN (plusN (symTo x m row i) (fillN (x.getD i []) m) (row.getD i 0)) (plusN (symTo y m row i) (fillN (y.getD i []) m) (row.getD i 0)) c
    rw [getR hxi, getR hyi, getR hzi, addsN_get hzi hxi hyi, f1, f2, f3, ih]
    exact plus_lin (s := []) hc (getD_lt hr i) o1.1 o2.1 a1 b1 o2.2 a2 b2
end Go.Proofs.YtcopjbapglndgaaGreatDoor
end
