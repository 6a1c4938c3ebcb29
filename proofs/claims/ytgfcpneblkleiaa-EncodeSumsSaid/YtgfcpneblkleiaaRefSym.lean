/-
  The document's Symbol.
-/
import Derived.Test.YtgfcpneblkleiaaMat
import Derived.Test.YtgfcpneblkleiaaGrow
namespace Go.Proofs.Ytgfcpneblkleiaa
open Go.ChangeShapes Go.WideShapes Go.ChangeAt Go.RowKit Go.Joins
set_option linter.unusedVariables false

theorem zeros_arr (n : Nat) : rowArr n zV = rowArr n (vOf (List.replicate n 0)) := by
  apply Array.ext
  · simp [rowArr]
  · intro i h1 h2
    have hi : i < n := by simpa [rowArr] using h1
    simp [rowArr, zV, vOf, byteV, hi]
theorem zeros_new (w : World) (n : Nat) : NewTo w (w.alloc (.cells (rowArr n zV) 5)) (List.replicate n 0) n :=
  NewTo.of_whole (by simp) ((Below.refl _ _).alloc (Nat.le_refl _) _) (by rw [← zeros_arr]; exact heap_alloc_new w _)
theorem zeros_byte (n : Nat) : IsByte (List.replicate n 0) := fun x hx => by
  have := (List.mem_replicate.1 hx).2; omega
theorem zeros_rw (B : Nat) (w : World) (n : Nat) (h : n ≤ 1000000) : Rw B (w.alloc (.cells (rowArr n zV) 5)) (some ⟨w.heap.size, 0, none⟩) n (List.replicate n 0) := by
  have := Rw.of_new (B := B) (by rw [List.length_replicate]; exact zeros_new w n) (zeros_byte n) (by rw [List.length_replicate]; exact h)
  rw [List.length_replicate] at this
  exact this

theorem rw_of {B : Nat} {W w : World} {m : List Nat} {n : Nat} (h : NewTo W w m n) (hl : m.length = n) (hb : IsByte m) (hm : n ≤ 1000000) : Rw B w (some ⟨W.heap.size, 0, none⟩) n m := by
  subst hl
  exact Rw.of_new h hb hm

theorem fill_at (B : Nat) (a : Option Addr) (cap : Nat) (l : List Nat) (n : Nat) (w : World) (hn : n ≤ 1000000) (hs : Sl w a cap l) {W : World} (hb : Below W.heap.size W w) :
    Calls Try.prog 12 #[.slice a l.length cap, .int .i64 (n : Int)] w fun e w' => e = .returned (.slice (some ⟨w.heap.size, 0, none⟩) n n) ∧ Hid (Rw B w' (some ⟨w.heap.size, 0, none⟩) n (fillN l n)) ∧ Below w.heap.size w w' ∧ Below W.heap.size W w' :=
  (fill_any a cap l n w hn hs).mono fun _ _ ⟨h1, h2⟩ => ⟨h1, rw_of h2 (fillN_len l n) (fillN_byte hs.byte n) hn, h2.below, hb.trans (h2.below.mono hb.size)⟩
theorem plus_at (B : Nat) (a a2 : Option Addr) (cap cap2 : Nat) (l m : List Nat) (c : Nat) (w : World) (hl : m.length ≤ 1000000) (hc : c < 256) (he : l.length = m.length) (hs : Sl w a cap l) (hs2 : Sl w a2 cap2 m) {W : World} (hb : Below W.heap.size W w) :
    Calls Try.prog 13 #[.slice a l.length cap, .slice a2 m.length cap2, .int .u8 (c : Int)] w fun e w' => e = .returned (.slice (some ⟨w.heap.size, 0, none⟩) l.length l.length) ∧ Hid (Rw B w' (some ⟨w.heap.size, 0, none⟩) l.length (plusN l m c)) ∧ Below w.heap.size w w' ∧ Below W.heap.size W w' :=
  (plus_any a a2 cap cap2 l m c w hl hc (by omega) hs hs2).mono fun _ _ ⟨h1, h2⟩ => ⟨h1, rw_of h2 (plusN_len l m c (by omega)) (plusN_byte l m c hs.byte hs2.byte) (by omega), h2.below, hb.trans (h2.below.mono hb.size)⟩

def SymPost (v : Rws) (m : Nat) (row : List Nat) (w : World) (e : Ending) (w' : World) : Prop :=
  ∃ g, e = .returned (.slice (some ⟨g, 0, none⟩) m m) ∧ Rw w.heap.size w' (some ⟨g, 0, none⟩) m (symTo v m row v.length) ∧ Below w.heap.size w w'

theorem cell_up {w : World} {p : Addr} {u : Value} (h : w.cell? p = some u) : ∀ d os, (Sort.grow (redrawn w d) os).cell? p = some u := fun d os => by
  rw [(below_regrown w d os).cell (World.block_lt_of_cell? w p h)]; exact h

set_option maxRecDepth 100000 in
set_option maxHeartbeats 1000000 in
theorem symbol_any (B : Nat) (a : Option Addr) (cap : Nat) (v : Rws) (m : Nat) (ra : Option Addr) (rcap : Nat) (row : List Nat) (w : World) (hB : B ≤ w.heap.size) (hs : Rs B w a cap v) (hl : v.length ≤ row.length) (hr : Sl w ra rcap row) (hm : m ≤ 1000000) :
    Calls Try.prog 10 #[.slice a v.length cap, .int .i64 (m : Int), .slice ra row.length rcap] w (SymPost v m row w) := by
  have HS := Lib.hid hs
  have HR := Lib.hid hr
  have HV := Lib.hid hs.byte
  have hlm := hs.lt
  have hlr := hr.lt
  have hmk := make_row m hm
  have HZ := Lib.hid (zeros_rw w.heap.size w m hm)
  have HB0 := Lib.hid ((Below.refl w.heap.size w).alloc (Nat.le_refl _) (.cells (rowArr m zV) 5))
  clear hs hr
  go_enter Try.func10, Try.ntmps10
  go_wp2_with fail
  clear hmk
  go_loopw [7, 13] (fun o i wr => ∃ k g : Nat, k ≤ v.length ∧ i = .int .i64 k ∧ o = .slice (some ⟨g, 0, none⟩) m m ∧ Hid (Rw w.heap.size wr (some ⟨g, 0, none⟩) m (symTo v m row k)) ∧ Hid (Below w.heap.size w wr)) (fun _ i _ => v.length - (intOf i).toNat)
  case atStart => exact ⟨0, w.heap.size, by omega, rfl, rfl, HZ, HB0⟩
  case round =>
    obtain ⟨k, g, hk, rfl, rfl, HO, HB⟩ := hrel
    by_cases hlt : k < v.length
    · obtain ⟨b, off, rfl, hb, hrr⟩ := (HS.out.keep hB (Keep.of_below HB.out)).some hlt
      obtain ⟨ai, ci, hck, hrw⟩ := hrr k hlt
      have hkr : k < row.length := by omega
      obtain ⟨b2, off2, rfl, hb2⟩ := (HR.out.below HB.out).some hkr
      have hck2 := hb2 k hkr
      have hy : row[k] < 256 := HR.out.byte _ (List.getElem_mem hkr)
      have HSL := Lib.hid hrw.sl
      have HE : Hid (symTo v m row (k + 1) = plusN (symTo v m row k) (fillN v[k] m) row[k]) := by
        show plusN _ _ _ = _
        rw [getR hlt, getD_get hkr]
      have HL := Lib.hid (symTo_ok (row := row) (m := m) HV.out k (by omega)).1
      generalize v[k] = x at *
      generalize row[k] = y at *
      have c1 := cell_up hck
      have c2 := cell_up hck2
      have i1 : (0 : Int) ≤ (k : Int) := by omega
      have i2 : (k : Int) < (v.length : Int) := by omega
      have i3 : (k : Int) < (row.length : Int) := by omega
      clear hrr hrw hb2 hck hck2 HZ HB0
      go_wp2_with fail
      refine grow_begin (by kernel_rfl) ?_
      refine grow_take (by kernel_rfl) [0, 1, 2, 3, 4, 5, 7, 8, 9, 10] 3 _ _ (by kernel_rfl) ?_
      simp only [opsAt, List.getElem?_toArray, List.getElem?_cons_succ, List.getElem?_cons_zero]
      repeat (first | go_big_quiet_step (fail) | quiet_step (fail))
      refine wpQuiet_nil ?_
      intro w1 hw1
      have hb1 := below_of_up hw1
      clear c1 c2 i1 i2 i3
      refine grow_one 6 (by kernel_rfl) hw1 (fun K hK => ?_)
      simp only [stepOf, List.getElem?_toArray, List.getElem?_cons_succ, List.getElem?_cons_zero]
      go_simp
      go_at_call 12
      refine (fill_at w.heap.size ai ci x m _ hm (HSL.out.below hb1) hb1).mono ?_
      rintro e w2 ⟨rfl, HN2, hb12, hb2⟩
      refine hK.out _ _ hb12 ?_
      clear hK K
      generalize w1.heap.size = g1 at *
      intro w3 hw3
      have hb3 := below_of_up hw3
      refine grow_one 11 (by kernel_rfl) hw3 (fun K hK => ?_)
      simp only [stepOf, List.getElem?_toArray, List.getElem?_cons_succ, List.getElem?_cons_zero]
      go_simp
      go_at_call 13
      have hb03 : Below wr.heap.size wr w3 := hb2.trans (hb3.mono hb2.size)
      have HP : Hid (Calls Try.prog 13 #[.slice (some ⟨g, 0, none⟩) m m, .slice (some ⟨g1, 0, none⟩) m m, .int .u8 (y : Int)] w3 fun e w' => e = .returned (.slice (some ⟨w3.heap.size, 0, none⟩) m m) ∧ Hid (Rw w.heap.size w' (some ⟨w3.heap.size, 0, none⟩) m (symTo v m row (k + 1))) ∧ Below w3.heap.size w3 w' ∧ Below wr.heap.size wr w') := by
        have := plus_at w.heap.size (some ⟨g, 0, none⟩) (some ⟨g1, 0, none⟩) m m (symTo v m row k) (fillN x m) y w3 (by rw [fillN_len]; exact hm) hy (by rw [HL.out, fillN_len]) (HO.out.sl.below hb03) (HN2.out.sl.below hb3) hb03
        rw [HL.out, fillN_len, ← HE.out] at this
        exact this
      refine HP.out.mono ?_
      rintro e w4 ⟨rfl, HN4, hb34, hb4⟩
      refine hK.out _ _ hb34 ?_
      clear hK K HP HO HE HL
      generalize w3.heap.size = g2 at *
      refine grow_take (by kernel_rfl) [12] 0 _ _ (by kernel_rfl) ?_
      simp only [opsAt, List.getElem?_toArray, List.getElem?_cons_succ, List.getElem?_cons_zero]
      repeat (first | go_big_quiet_step (fail) | quiet_step (fail))
      refine wpQuiet_nil ?_
      intro w5 hw5
      have hb5 := below_of_up hw5
      refine grow_done (by kernel_rfl) ?_
      have HN5 := Lib.hid (HN4.out.below hb5)
      have HB5 : Hid (Below w.heap.size w w5) := HB.out.trans ((hb4.trans (hb5.mono hb4.size)).mono HB.out.size)
      clear hb5 hw5 hb4 hb34 hb03 hb3 hw3 hb2 hb12 hb1 hw1 HN4 HN2
      go_wp2_with fail
      go_roundw
      case rel => exact ⟨k + 1, g2, by omega, by go_num, rfl, HN5, HB5⟩
      case measure => simp [intOf]; omega
    · obtain rfl : k = v.length := by omega
      go_wp2_with fail
      go_ret
      exact ⟨g, rfl, HO.out, HB.out⟩
end Go.Proofs.Ytgfcpneblkleiaa
