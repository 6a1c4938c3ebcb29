/-
  Rows of bytes that came in; a string of bytes in any world that comes out of one by making memory.
  The CRC of bytes: package sum's and the document's, in the words of the other texts.
  What the listed variables give the walks of scan's laws; rows that are handed in; the laid heap meets the condition.
  The frame of a law that lists variables, with the shape of the world handed on to the walk.
-/
import Derived.Test.YtfgaohilpbocbaaGreatDoorMl25
import Derived.Deep.Matrix
import Derived.Lib.SlBytesConst
import Derived.LaidLaws
import Derived.Stop.LaidErr
import Derived.Lay
import Derived.Lib.LaidTab
import Derived.Test.YtfgaohilpbocbaaGreatDoorRows
import Derived.Handed
import Derived.JoinedTies
section
namespace Go.Proofs.YtfgaohilpbocbaaGreatDoor
open Go.ChangeShapes Go.WideShapes Go.ChangeAt Go.RowKit Go.Joins
set_option linter.unusedVariables false

/-- Rows that came in. -/
theorem rows_in {H : Type} {enc : TypeId × Value → H} {w : World} {base fuel : Nat} {held : Bool} {c : Value} {x : DataW H × List MemPlace}
    (h : DataW.trod enc Tryz.prog w base (fun _ => true) held fuel 31 [c] = some x) :
    ∃ (a : Option Addr) (cap : Nat) (ls : Rws), c = .slice a ls.length cap ∧ Rs w.heap.size w a cap ls := by
  rcases Go.Deep.open_int_rows Tryz.underlying31 Tryz.underlying53 Tryz.underlying5 (by kernel_rfl) (by kernel_rfl) h with ⟨hcs, _⟩ | ⟨a, len, cap, A, L, C, Z, hcs, _, hl, hm, _, hr⟩
  · simp only [List.cons.injEq, and_true] at hcs
    exact ⟨none, 0, [], hcs, nil_rs _ _⟩
  · simp only [List.cons.injEq, and_true] at hcs
    have hlen : ((List.range len).map fun r => ((Z r).take (L r)).map Int.toNat).length = len := by simp
    refine ⟨some a, cap, (List.range len).map fun r => ((Z r).take (L r)).map Int.toNat, by rw [hlen]; exact hcs, by rw [hlen]; exact hl, hm, fun e => (by cases e), ?_⟩
    by_cases h0 : len = 0
    · subst h0; exact .inl rfl
    · obtain ⟨b, off, spot⟩ := a
      have hc0 := (hr 0 (by omega)).1
      have hspot : spot = none := by simpa [Addr.add] using World.cell?_spot hc0
      subst hspot
      have hadd : ∀ r, (⟨b, off, none⟩ : Addr).add r = ⟨b, off + r, none⟩ := fun r => by
        by_cases r0 : r = 0
        · subst r0; simp [Addr.add]
        · simp [Addr.add, r0]
      refine .inr ⟨b, off, rfl, ?_, fun r hrl => ?_⟩
      · rw [hadd] at hc0; exact World.block_lt_of_cell? w _ hc0
      · rw [hlen] at hrl
        obtain ⟨h1, h2, h3, h4, h5, h6, h7⟩ := hr r (by omega)
        rw [hadd] at h1
        have hlr : (((List.range len).map fun r => ((Z r).take (L r)).map Int.toNat)[r]'(by rw [hlen]; exact hrl)) = ((Z r).take (L r)).map Int.toNat := by simp
        rw [hlr]
        have hll : (((Z r).take (L r)).map Int.toNat).length = L r := by simp; omega
        have hb255 : ∀ z ∈ Z r, 0 ≤ z ∧ z ≤ 255 := fun z hz => by
          have := h5 z hz
          simpa [Lit.wf, IntKind.min, IntKind.max, IntKind.signed, IntKind.bits] using this
        refine ⟨A r, C r, by rw [hll]; exact h1, Rw.of_sl ⟨fun n hn => ?_, by rw [hll]; exact h2, h3, fun e => ?_, ?_⟩⟩
        · obtain ⟨z, hz1, rfl⟩ := List.mem_map.1 hn
          have := hb255 z (List.mem_of_mem_take hz1)
          omega
        · have hC := h6 e
          exact ⟨List.length_eq_zero_iff.1 (by rw [hll]; omega), hC⟩
        · by_cases hL : L r = 0
          · exact .inl (List.length_eq_zero_iff.1 (by rw [hll]; exact hL))
          · cases hA : A r with
            | none => have := h6 hA; omega
            | some a' =>
              obtain ⟨b', off', spot'⟩ := a'
              have hcell := (h7 _ hA).2
              have hc0' := hcell 0 (by omega)
              have hspot' : spot' = none := by simpa [Addr.add] using World.cell?_spot hc0'
              subst hspot'
              refine .inr ⟨b', off', rfl, fun i hi => ?_⟩
              rw [hll] at hi
              have hci := hcell i (by omega)
              have e : (Z r).getD i 0 = (Z r)[i]'(by omega) := by simp [List.getD, show i < (Z r).length by omega]
              rw [e] at hci
              have hb := hb255 _ (List.getElem_mem (show i < (Z r).length by omega))
              have e2 : (((((Z r).take (L r)).map Int.toNat)[i]'(by rw [hll]; exact hi) : Nat) : Int) = (Z r)[i]'(by omega) := by simp; omega
              rw [e2, ← hci]
              by_cases hi0 : i = 0
              · subst hi0; simp [Addr.add]
              · simp [Addr.add, hi0]


theorem conv_class {w : World} {a : Option Addr} {n cap : Nat} {l : List Nat} (h : Sl w a cap l) (hn : l.length = n) : ∀ d os, (convert 53 9 (.slice a n cap)).run Tryz.prog (Sort.grow (redrawn w d) os) = .ok (.string (strOf l)) (Sort.grow (redrawn w d) os) := fun d os => by
  subst hn
  exact conv_sl _ a cap l (h.below (below_regrown w d os))

end Go.Proofs.YtfgaohilpbocbaaGreatDoor
end

section
namespace Go.Proofs.YtfgaohilpbocbaaGreatDoor.Sha
open Go.ChangeShapes Go.WideShapes Go.ChangeAt Go.RowKit
set_option linter.unusedVariables false

/-- The table of package sum, as it is laid. -/
def Fours (w : World) : Prop := ∀ k, k < 16 → w.cell? ⟨2, k, none⟩ = some (.int .u32 (four k : Nat))

theorem xor_shr4 (a b : Nat) (ha : a < 4294967296) (hb : b < 4294967296) : bits .xor .u32 ((a : Int) / 16) (b : Int) = ((a / 16 ^^^ b : Nat) : Int) := xor32 (a / 16) b (by omega) hb

set_option maxHeartbeats 400000 in
theorem feed_any (s c : Nat) (hs : s < 4294967296) (hc : c < 256) (w : World) (hF : Fours w) :
    Calls Tryz.prog 104 #[.int .u32 (s : Int), .int .u8 (c : Int)] w fun e w' => e = .returned (.int .u32 ((feedN s c : Nat) : Int)) ∧ w = w' := by
  have e1 := xor32 s c hs (by omega)
  have b1 : s ^^^ c < 4294967296 := xor_lt32 hs (by omega)
  have hE := Lib.hid (feed_eq (s ^^^ c))
  have hd : feedN s c = stps 8 (s ^^^ c) := rfl
  have HD := Lib.hid hd
  clear hd
  generalize s ^^^ c = x at *
  have e2 := mask15 x b1
  have m1 : x % 16 < 16 := Nat.mod_lt _ (by omega)
  have h1 := hF (x % 16) m1
  have l1 := four_lt (x % 16) m1
  have e3 := xor_shr4 x (four (x % 16)) b1 l1
  have b2 : x / 16 ^^^ four (x % 16) < 4294967296 := xor_lt32 (by omega) l1
  generalize x / 16 ^^^ four (x % 16) = y at *
  have e4 := mask15 y b2
  have m2 : y % 16 < 16 := Nat.mod_lt _ (by omega)
  have h2 := hF (y % 16) m2
  have l2 := four_lt (y % 16) m2
  have e5 := xor_shr4 y (four (y % 16)) b2 l2
  have HF := Lib.hid hF
  clear hF
  go_enter Tryz.func104, Tryz.ntmps104
  go_wp2
  go_ret
  exact ⟨by rw [HD.out, ← hE.out]; rfl, rfl⟩

theorem feedAll_take (s : Nat) (l : List Nat) (k : Nat) (h : k < l.length) : feedAll s (l.take (k + 1)) = feedN (feedAll s (l.take k)) l[k] := by
  rw [List.take_succ_eq_append_getElem h, feedAll_snoc]

set_option maxHeartbeats 400000 in
theorem crc_some (b off cap : Nat) (l : List Nat) (w : World) (hl : l.length ≤ maxLen) (hb : IsByte l) (hc : BytesIn w b off l) (hF : Fours w) :
    Calls Tryz.prog 59 #[.slice (some ⟨b, off, none⟩) l.length cap] w fun e w' => e = .returned (.int .u32 ((crcN l : Nat) : Int)) ∧ w = w' := by
  unfold maxLen at hl
  have HC := Lib.hid hc
  have HB := Lib.hid hb
  have HF := Lib.hid hF
  clear hc hb hF
  go_enter Tryz.func59, Tryz.ntmps59
  go_wp2
  go_loop [3, 8] (fun s i => ∃ k t : Nat, k ≤ l.length ∧ t = feedAll 4294967295 (l.take k) ∧ t < 4294967296 ∧ i = .int .i64 k ∧ s = .int .u32 t) (fun _ i => l.length - (intOf i).toNat)
  case atStart => exact ⟨0, 4294967295, by omega, rfl, by omega, rfl, rfl⟩
  case round =>
    obtain ⟨k, t, hk, ht, htl, rfl, rfl⟩ := hrel
    have HT := Lib.hid ht
    clear ht
    by_cases hlt : k < l.length
    · have c0 := HC.out k hlt
      have y0 : l[k] < 256 := HB.out _ (List.getElem_mem hlt)
      have HS := Lib.hid (feedAll_take 4294967295 l k hlt)
      have hN := feedN_lt t l[k] htl y0
      generalize l[k] = c at *
      go_wp2_with (go_at_call 104; refine (feed_any _ _ htl y0 _ HF.out).mono ?_; rintro e w' ⟨rfl, rfl⟩)
      go_round
      case rel => exact ⟨k + 1, feedN t c, by omega, by rw [HS.out, HT.out], hN, by go_num, rfl⟩
      case measure => simp [intOf]; omega
    · have hx := turn32 t htl
      have HE : Hid (t ^^^ 4294967295 = crcN l) := by
        have := HT.out
        rw [List.take_of_length_le (by omega)] at this
        rw [this]; rfl
      go_wp2
      go_ret
      exact ⟨ret_u32 HE.out, rfl⟩

theorem crc_none (a : Option Addr) (cap : Nat) (w : World) :
    Calls Tryz.prog 59 #[.slice a 0 cap] w fun e w' => e = .returned (.int .u32 ((crcN [] : Nat) : Int)) ∧ w = w' := by
  go_enter Tryz.func59, Tryz.ntmps59
  go_wp2
  go_loop [3, 8] (fun s i => i = .int .i64 0 ∧ s = .int .u32 4294967295) (fun _ i => 0)
  case atStart => exact ⟨rfl, rfl⟩
  case round =>
    obtain ⟨rfl, rfl⟩ := hrel
    have hx := xor32 4294967295 4294967295 (by omega) (by omega)
    go_wp2
    go_ret
    exact ⟨by rfl, rfl⟩

/-! The document's CRC. -/

theorem the_bit (r c m : Nat) (hc : c < 256) : bits .xor .u64 ((r : Int) % 2) (IntKind.u64.wrap (bits .and .u8 ((c : Int) / 2 ^ m) 1)) = ((r % 2 ^^^ c / 2 ^ m % 2 : Nat) : Int) := by
  have h2 : c / 2 ^ m < 256 := Nat.lt_of_le_of_lt (Nat.div_le_self _ _) hc
  have h := u8_and_nat (c / 2 ^ m) 1 h2 (by omega)
  rw [nat_mask1] at h
  have e : ((c : Int) / 2 ^ m) = ((c / 2 ^ m : Nat) : Int) := by simp
  have h' : bits .and .u8 ((c : Int) / 2 ^ m) 1 = ((c / 2 ^ m % 2 : Nat) : Int) := by rw [e]; exact h
  rw [h', IntKind.wrap_u64]
  have := u64_xor_nat (r % 2) (c / 2 ^ m % 2) (by omega) (by omega)
  rw [← this]
  congr 1
  omega

theorem the_turn (r : Nat) (hr : r < 4294967296) : bits .xor .u64 ((r : Int) / 2) 3988292384 = ((r / 2 ^^^ 3988292384 : Nat) : Int) := u64_xor_nat (r / 2) 3988292384 (by omega) (by omega)

set_option maxHeartbeats 400000 in
theorem ref_some (b off cap : Nat) (l : List Nat) (w : World) (hl : l.length ≤ maxLen) (hb : IsByte l) (hc : BytesIn w b off l) :
    Calls Tryz.prog 38 #[.slice (some ⟨b, off, none⟩) l.length cap] w fun e w' => e = .returned (.int .u32 ((crcN l : Nat) : Int)) ∧ w = w' := by
  unfold maxLen at hl
  have HC := Lib.hid hc
  have HB := Lib.hid hb
  clear hc hb
  go_enter Tryz.func38, Tryz.ntmps38
  go_wp2
  go_loop [3, 9] (fun s i => ∃ k t : Nat, k ≤ l.length ∧ t = feedAll 4294967295 (l.take k) ∧ t < 4294967296 ∧ i = .int .i64 k ∧ s = .int .u64 t) (fun _ i => l.length - (intOf i).toNat)
  case atStart => exact ⟨0, 4294967295, by omega, rfl, by omega, rfl, rfl⟩
  case round =>
    obtain ⟨k, t, hk, ht, htl, rfl, rfl⟩ := hrel
    have HT := Lib.hid ht
    clear ht
    by_cases hlt : k < l.length
    · have c0 := HC.out k hlt
      have y0 : l[k] < 256 := HB.out _ (List.getElem_mem hlt)
      have HS := Lib.hid (feedAll_take 4294967295 l k hlt)
      have hN := feedN_lt t l[k] htl y0
      generalize l[k] = c at *
      go_wp2
      go_loop [3, 12] (fun s i => ∃ m r : Nat, m ≤ 8 ∧ r = bitSteps t c m ∧ r < 4294967296 ∧ i = .int .i64 m ∧ s = .int .u64 r) (fun _ i => 8 - (intOf i).toNat)
      case atStart => exact ⟨0, t, by omega, rfl, htl, rfl, rfl⟩
      case round =>
        obtain ⟨m, r, hm, hr, hrl, rfl, rfl⟩ := hrel
        have HR := Lib.hid hr
        by_cases hlm : m < 8
        · have e1 := the_bit r c m y0
          have e2 := the_turn r hrl
          have hd : bitSteps t c (m + 1) = bitStep r c m := by rw [hr]; rfl
          have hb2 : bitStep r c m = r / 2 ^^^ (if (r % 2 ^^^ c / 2 ^ m % 2) = 1 then 3988292384 else 0) := rfl
          have hbl := bitStep_lt r c m hrl
          have HD := Lib.hid (hd.trans hb2)
          rw [hb2] at hbl
          have HL := Lib.hid hbl
          clear hd hb2 hbl hr
          generalize (r % 2 ^^^ c / 2 ^ m % 2) = d at *
          by_cases hd1 : d = 1
          · subst hd1
            have h1 : (((1 : Nat) : Int) == 1) = true := rfl
            go_wp2
            go_round
            case rel => exact ⟨m + 1, r / 2 ^^^ 3988292384, by omega, HD.out.symm, HL.out, by go_num, rfl⟩
            case measure => simp [intOf]; omega
          · have h1 : ((d : Int) == 1) = false := by simp; omega
            have HX := Lib.hid hd1
            clear hd1
            go_wp2
            go_round
            case rel =>
              have h3 := HD.out
              rw [if_neg HX.out, Nat.xor_zero] at h3
              exact ⟨m + 1, r / 2, by omega, h3.symm, by omega, by go_num, rfl⟩
            case measure => simp [intOf]; omega
        · have hm8 : m = 8 := by omega
          subst hm8
          clear hr
          go_wp2
          go_round
          case rel => exact ⟨k + 1, r, by omega, by rw [HS.out, ← HT.out, HR.out, bit_steps8 _ _ y0], hrl, by go_num, rfl⟩
          case measure => simp [intOf]; omega
    · have hx : bits .xor .u64 (t : Int) 4294967295 = ((t ^^^ 4294967295 : Nat) : Int) := u64_xor_nat t 4294967295 (by omega) (by omega)
      have HE : Hid (t ^^^ 4294967295 = crcN l) := by
        have := HT.out
        rw [List.take_of_length_le (by omega)] at this
        rw [this]; rfl
      have hlt : t ^^^ 4294967295 < 4294967296 := turn_lt t htl
      generalize t ^^^ 4294967295 = z at *
      go_wp2
      go_ret
      exact ⟨ret_u32 HE.out, rfl⟩

theorem ref_none (a : Option Addr) (cap : Nat) (w : World) :
    Calls Tryz.prog 38 #[.slice a 0 cap] w fun e w' => e = .returned (.int .u32 ((crcN [] : Nat) : Int)) ∧ w = w' := by
  go_enter Tryz.func38, Tryz.ntmps38
  go_wp2
  go_loop [3, 9] (fun s i => i = .int .i64 0 ∧ s = .int .u64 4294967295) (fun _ i => 0)
  case atStart => exact ⟨rfl, rfl⟩
  case round =>
    obtain ⟨rfl, rfl⟩ := hrel
    go_wp2
    go_ret
    exact ⟨by rfl, rfl⟩

theorem Fours.lt {w : World} (h : Fours w) : 2 < w.heap.size := World.block_lt_of_cell? w ⟨2, 0, none⟩ (h 0 (by omega))

theorem Fours.below {w w' : World} {B : Nat} (h : Fours w) (hB : 2 < B) (b : Below B w w') : Fours w' := fun k hk => by
  rw [b.cell (p := ⟨2, k, none⟩) hB]; exact h k hk

theorem crc_any (a : Option Addr) (cap : Nat) (l : List Nat) (w : World) (hl : l.length ≤ maxLen) (hb : IsByte l) (hc : BytesAt w a l) (hF : Fours w) :
    Calls Tryz.prog 59 #[.slice a l.length cap] w fun e w' => e = .returned (.int .u32 ((crcN l : Nat) : Int)) ∧ w = w' := by
  rcases hc with rfl | ⟨b, off, rfl, hc⟩
  · exact crc_none a cap w
  · exact crc_some b off cap l w hl hb hc hF

theorem ref_any (a : Option Addr) (cap : Nat) (l : List Nat) (w : World) (hl : l.length ≤ maxLen) (hb : IsByte l) (hc : BytesAt w a l) :
    Calls Tryz.prog 38 #[.slice a l.length cap] w fun e w' => e = .returned (.int .u32 ((crcN l : Nat) : Int)) ∧ w = w' := by
  rcases hc with rfl | ⟨b, off, rfl, hc⟩
  · exact ref_none a cap w
  · exact ref_some b off cap l w hl hb hc

end Go.Proofs.YtfgaohilpbocbaaGreatDoor.Sha
namespace Go.Proofs.YtfgaohilpbocbaaGreatDoor
open Go.ChangeShapes Go.WideShapes Go.ChangeAt Go.RowKit Go.Joins
/-- The CRC of bytes. -/
def crcOf (l : List Nat) : Nat := Sha.crcN l
def Fours (w : World) : Prop := Sha.Fours w
theorem Fours.below {w w' : World} (h : Fours w) (k : Below w.heap.size w w') : Fours w' := Sha.Fours.below h (Sha.Fours.lt h) k
theorem crcOf_lt (l : List Nat) (h : IsByte l) : crcOf l < 4294967296 := Sha.turn_lt _ (Sha.feedAll_lt l _ (by omega) h)
theorem crc_sl (a : Option Addr) (c : Nat) (l : List Nat) (w : World) (hs : Sl w a c l) (hF : Fours w) :
    Calls Tryz.prog 59 #[.slice a l.length c] w fun e w' => e = .returned (.int .u32 ((crcOf l : Nat) : Int)) ∧ w = w' :=
  Sha.crc_any a c l w (Nat.le_trans hs.len hs.most) hs.byte (sl_sha hs) hF
theorem refCrc_sl (a : Option Addr) (c : Nat) (l : List Nat) (w : World) (hs : Sl w a c l) :
    Calls Tryz.prog 38 #[.slice a l.length c] w fun e w' => e = .returned (.int .u32 ((crcOf l : Nat) : Int)) ∧ w = w' :=
  Sha.ref_any a c l w (Nat.le_trans hs.len hs.most) hs.byte (sl_sha hs)
end Go.Proofs.YtfgaohilpbocbaaGreatDoor
end

section
namespace Go.Proofs.YtfgaohilpbocbaaGreatDoor
open Go.ChangeShapes Go.WideShapes Go.ChangeAt Go.RowKit Go.Joins
set_option linter.unusedVariables false

theorem own18 : ownKnob Tryz.prog.godebug = none := by kernel_rfl
theorem laidOut18 : laidOutB Tryz.prog = true := by kernel_rfl
def laid18 : List (String × DataW Unit) := [("unicode/utf8.acceptRanges", Rows.laid_unicode_utf8_acceptRanges), ("geyser/sum.fours", Rows.laid_geyser_sum_fours), ("geyser/sum.start", Rows.laid_geyser_sum_start), ("geyser/sum.rounds", Rows.laid_geyser_sum_rounds), ("unicode/utf8.first", Rows.laid_unicode_utf8_first)]
theorem plain18 : laidMetH Tryz.prog laid18 = laidMet Tryz.prog laid18 := by funext w; exact MakeChecks.laidMetH_plain _ _ _ (by kernel_rfl)
theorem tabs18 {W : World} (h0 : laidMetH Tryz.prog laid18 W) : Tabs W := by
  rw [plain18] at h0
  have h := h0.tail.tail
  obtain ⟨ps, ⟨g1, t1, cs1, f1, p1, q1, hg1, ht1, hv1, hd1, ⟨g2, t2, cs2, f2, p2, q2, hg2, ht2, hv2, hd2, _⟩, _⟩, _, _⟩ := h
  obtain rfl := Option.some.inj (gStart.symm.trans hg1)
  obtain rfl := Option.some.inj (tStart.symm.trans ht1)
  obtain rfl := Option.some.inj (gRounds.symm.trans hg2)
  obtain rfl := Option.some.inj (tRounds.symm.trans ht2)
  refine ⟨fun k hk => ?_, ?_⟩
  · rw [World.var?_cell hg2 hv2 k]
    have := array_get32 (zs := roundsL) Tryz.underlying231 hd2 k _ (rounds_get k hk)
    simpa using this
  · have hcs : cs1 = Sha.rowArr 8 (Sha.stV Sha.start8) := by
      have hl := (DataW.trod_array Tryz.underlying196 hd1)
      obtain ⟨xs, m1, _, _, hcl, _, _⟩ := hl
      rw [show Tryz.prog.cellsOf 196 = 8 by kernel_rfl] at hcl
      apply Array.ext_getElem?
      intro i
      by_cases hi : i < 8
      · have := array_get32 (zs := startL) Tryz.underlying196 hd1 i _ (start_get i hi)
        rw [← Array.getElem?_toList, this]
        simp [Sha.rowArr, hi, Sha.stV]
      · have h8 : cs1.size = 8 := by simpa using hcl
        rw [Array.getElem?_eq_none (by omega), Array.getElem?_eq_none (by rw [Sha.rowArr_size]; omega)]
    unfold World.var? at hv1
    rw [hg1] at hv1
    simp only [Option.bind_some] at hv1
    split at hv1
    · rename_i cs t fr heq
      have : cs = cs1 := Option.some.inj hv1
      exact ⟨t, fr, by rw [heq, this, hcs]⟩
    · cases hv1
theorem shaped18 (os : Os) : (World.laidAll Tryz.prog os laid18).Shaped Tryz.prog := World.shaped_of_ZipB (by kernel_rfl) (by kernel_rfl)
theorem met18 (os : Os) (args : Array Value) : laidMetH Tryz.prog laid18 ((World.laidAll Tryz.prog os laid18).forCall (fun _ _ => 0) ⟨#[], args, []⟩).memory := by
  rw [plain18]; exact laidMet_laidAll _ (by kernel_rfl) (by kernel_rfl)
theorem gFours : Tryz.prog.globalNamed "geyser/sum.fours" = some 2 := by kernel_rfl
theorem tFours : (Tryz.prog.globals[2]?).map (·.type) = some 234 := by kernel_rfl
def foursL : List Int := [0, 498536548, 997073096, 651767980, 1994146192, 1802195444, 1303535960, 1342533948, 3988292384, 4027552580, 3604390888, 3412177804, 2607071920, 2262029012, 2685067896, 3183342108]
theorem fours_get : ∀ k, k < 16 → foursL[k]? = some ((Sha.four k : Nat) : Int) := by decide
theorem fours18 {W : World} (h0 : laidMetH Tryz.prog laid18 W) : Fours W := by
  rw [plain18] at h0
  have h := h0.tail
  obtain ⟨ps, ⟨g1, t1, cs1, f1, p1, q1, hg1, ht1, hv1, hd1, _⟩, _, _⟩ := h
  obtain rfl := Option.some.inj (gFours.symm.trans hg1)
  obtain rfl := Option.some.inj (tFours.symm.trans ht1)
  intro k hk
  rw [World.var?_cell hg1 hv1 k]
  have := array_get32 (zs := foursL) Tryz.underlying234 hd1 k _ (fours_get k hk)
  simpa using this
set_option maxRecDepth 100000 in
theorem rows_arg {H : Type} {enc : TypeId × Value → H} {w : World} {base : Nat} {held : Bool} {r : Reach} {b0 : Nat} {v : Value} {d : DataW H} {q : List MemPlace} (hv : Value.okWide Tryz.prog w r b0 31 v) (h : DataW.Trod enc Tryz.prog w base (fun _ => true) held 31 v d q) :
    ∃ a l cap, v = .slice a (l : Rws).length cap ∧ Rs w.heap.size w a cap l := by
  obtain ⟨a, n, c, rfl⟩ := okWide_slice Tryz.underlying31 hv
  obtain ⟨fuel, hf⟩ := h
  obtain ⟨a', cap', l, e, hs⟩ := rows_in hf
  exact ⟨a', l, cap', e, hs⟩
end Go.Proofs.YtfgaohilpbocbaaGreatDoor
end

section
namespace Go.Proofs.YtfgaohilpbocbaaGreatDoor
open Go.ChangeShapes Go.WideShapes

theorem handed_shaped {H : Type} {enc : TypeId × Value → H} {a : Assume} {C : Checked} {os : Os} {f : FuncId} {fn : Func} {s : ChangeSpec} {conds : List PathCond} {apart fresh handsOn again : Bool} {X : World → Array Value → Prop}
    (stays : ∀ (w w' : World) (args : Array Value), w.heap = w'.heap → X w args → X w' args) (knob : ownKnob C.prog.godebug = none) (hos : os.Started) (plain : C.prog.inits.idxOf? f = none) (is : C.prog.funcs[f]? = some fn)
    (fits : ∃ (w : World) (tape : Tape) (i : Input), w.os = os ∧ (w.forCall tape i).Shaped C.prog ∧ i.vars = [] ∧ Input.okWide C.prog (w.forCall tape i) .any w.heap.size f i ∧
      ((s.pre enc C.prog fn conds apart (w.forCall tape i).memory i.args ∧ X (w.forCall tape i).memory i.args) ∧ sizedMet enc C.prog fn (OpenSpec.ofChange s) apart (w.forCall tape i).memory i.args) ∧ a.holds C.prog (lone (Frame.enter C.prog f i.args .normal) [] (w.forCall tape i)))
    (walk : ∀ (W : World) (base : Nat) (args : Array Value) (ds gs : List (DataW H)) (before : List MemPlace), W.ShapedOpen C.prog → X W args →
      (∀ (j : Nat) t v, fn.params[j]? = some t → args[j]? = some v → Value.okWide C.prog W .any base t v) →
      DataW.Whole enc C.prog fn.params.toList s.vars apart W args.toList ds gs before →
      Calls C.prog f args W fun e W' => ∃ v, e = .returned v ∧ s.post enc C.prog fn apart fresh handsOn again W args v W') :
    ReturnsInHanded a C os f .any (fun w args => (s.pre enc C.prog fn conds apart w args ∧ X w args) ∧ sizedMet enc C.prog fn (OpenSpec.ofChange s) apart w args) (s.post enc C.prog fn apart fresh handsOn again) := by
  apply returnsInHanded_of_calls knob hos plain fits
  rintro w tape i - shape - ⟨-, -, -, g, hg, -, -, -, -, vals⟩ ⟨⟨⟨ds, gs, before, whole, -⟩, x⟩, -⟩ -
  obtain rfl : g = fn := Option.some.inj (hg.symm.trans is)
  have W1 : DataW.Whole enc C.prog g.params.toList s.vars apart (w.forCall tape i) i.args.toList ds gs before := DataW.Whole.of_heap (by rfl) whole
  refine (walk _ w.heap.size i.args ds gs before shape (stays (w.forCall tape i).memory _ _ (by rfl) x) vals W1).mono ?_
  rintro e W' ⟨v, rfl, post⟩
  exact ChangeSpec.post_blind post
end Go.Proofs.YtfgaohilpbocbaaGreatDoor
end
