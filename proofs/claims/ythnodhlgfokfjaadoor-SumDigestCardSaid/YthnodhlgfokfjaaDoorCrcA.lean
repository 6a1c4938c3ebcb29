/-
  What 'feed' and 'CRC' of package sum, and the document's CRC, answer of any bytes.
-/
import Derived.Test.YthnodhlgfokfjaaDoorRows
import Derived.Test.YthnodhlgfokfjaaDoorCrcMath
import Derived.WalkKit
import Derived.ProofKit
import Derived.OpenShut
import Derived.Below
import Derived.WalkSpells
import Derived.WalkLawsBesides
import Derived.Outline
import Derived.Deep.QuietTactic
import Derived.BigQuiet
import Derived.Lib.Hide
import Derived.Laws.BitsAllLaws
namespace Go.Proofs.YthnodhlgfokfjaaDoor
open Go.ChangeShapes Go.WideShapes Go.ChangeAt Go.RowKit
set_option linter.unusedVariables false

/-- The table of package sum, as it is laid. -/
def Fours (w : World) : Prop := ∀ k, k < 16 → w.cell? ⟨1, k, none⟩ = some (.int .u32 (four k : Nat))

theorem xor32 (a b : Nat) (ha : a < 4294967296) (hb : b < 4294967296) : bits .xor .u32 (a : Int) (b : Int) = ((a ^^^ b : Nat) : Int) := u32_xor_nat a b ha hb
theorem mask15 (a : Nat) (ha : a < 4294967296) : bits .and .u32 (a : Int) 15 = ((a % 16 : Nat) : Int) := by
  have := u32_and_nat a 15 ha (by omega)
  rw [nat_mask4] at this
  exact this

theorem xor_shr4 (a b : Nat) (ha : a < 4294967296) (hb : b < 4294967296) : bits .xor .u32 ((a : Int) / 16) (b : Int) = ((a / 16 ^^^ b : Nat) : Int) := xor32 (a / 16) b (by omega) hb

theorem turn32 (a : Nat) (ha : a < 4294967296) : bits .xor .u32 (a : Int) 4294967295 = ((a ^^^ 4294967295 : Nat) : Int) := u32_xor_nat a 4294967295 ha (by omega)

theorem xor_lt32 {a b : Nat} (ha : a < 4294967296) (hb : b < 4294967296) : a ^^^ b < 4294967296 := by
  have : a ^^^ b < 2 ^ 32 := Nat.xor_lt_two_pow (by omega) (by omega)
  simpa using this

set_option maxHeartbeats 400000 in
theorem feed_any (s c : Nat) (hs : s < 4294967296) (hc : c < 256) (w : World) (hF : Fours w) :
    Calls Tryd.prog 13 #[.int .u32 (s : Int), .int .u8 (c : Int)] w fun e w' => e = .returned (.int .u32 ((feedN s c : Nat) : Int)) ∧ w = w' := by
  have e1 := xor32 s c hs (by omega)
  have b1 : s ^^^ c < 4294967296 := xor_lt32 hs (by omega)
  have hE := Lib.hid (feed_eq (s ^^^ c))
  have hd : feedN s c = stps 8 (s ^^^ c) := rfl
  have HD := Lib.hid hd
  clear hd
  generalize s ^^^ c = x at *
  have e2 := mask15 x b1
  have m1 : x % 16 < 16 := Nat.mod_lt _ (by omega)
  have h1 := hF (x % 16) m1
  have l1 := four_lt (x % 16) m1
  have e3 := xor_shr4 x (four (x % 16)) b1 l1
  have b2 : x / 16 ^^^ four (x % 16) < 4294967296 := xor_lt32 (by omega) l1
  generalize x / 16 ^^^ four (x % 16) = y at *
  have e4 := mask15 y b2
  have m2 : y % 16 < 16 := Nat.mod_lt _ (by omega)
  have h2 := hF (y % 16) m2
  have l2 := four_lt (y % 16) m2
  have e5 := xor_shr4 y (four (y % 16)) b2 l2
  have HF := Lib.hid hF
  clear hF
  go_enter Tryd.func13, Tryd.ntmps13
  go_wp2
  go_ret
  exact ⟨by rw [HD.out, ← hE.out]; rfl, rfl⟩

/-- The cells of a list of bytes. -/
def BytesIn (w : World) (b off : Nat) (l : List Nat) : Prop := ∀ i (h : i < l.length), w.cell? ⟨b, off + i, none⟩ = some (.int .u8 ((l[i] : Nat) : Int))

theorem feedAll_take (s : Nat) (l : List Nat) (k : Nat) (h : k < l.length) : feedAll s (l.take (k + 1)) = feedN (feedAll s (l.take k)) l[k] := by
  rw [List.take_succ_eq_append_getElem h, feedAll_snoc]

theorem isByte_take {l : List Nat} (h : IsByte l) (k : Nat) : IsByte (l.take k) := fun c hc => h c (List.mem_of_mem_take hc)

theorem ret_u32 {a b : Nat} (h : a = b) : Ending.returned (.int .u32 (a : Int)) = .returned (.int .u32 (b : Int)) := by rw [h]

set_option maxHeartbeats 400000 in
theorem crc_some (b off cap : Nat) (l : List Nat) (w : World) (hl : l.length ≤ maxLen) (hb : IsByte l) (hc : BytesIn w b off l) (hF : Fours w) :
    Calls Tryd.prog 7 #[.slice (some ⟨b, off, none⟩) l.length cap] w fun e w' => e = .returned (.int .u32 ((crcN l : Nat) : Int)) ∧ w = w' := by
  unfold maxLen at hl
  have HC := Lib.hid hc
  have HB := Lib.hid hb
  have HF := Lib.hid hF
  clear hc hb hF
  go_enter Tryd.func7, Tryd.ntmps7
  go_wp2
  go_loop [3, 8] (fun s i => ∃ k t : Nat, k ≤ l.length ∧ t = feedAll 4294967295 (l.take k) ∧ t < 4294967296 ∧ i = .int .i64 k ∧ s = .int .u32 t) (fun _ i => l.length - (intOf i).toNat)
  case atStart => exact ⟨0, 4294967295, by omega, rfl, by omega, rfl, rfl⟩
  case round =>
    obtain ⟨k, t, hk, ht, htl, rfl, rfl⟩ := hrel
    have HT := Lib.hid ht
    clear ht
    by_cases hlt : k < l.length
    · have c0 := HC.out k hlt
      have y0 : l[k] < 256 := HB.out _ (List.getElem_mem hlt)
      have HS := Lib.hid (feedAll_take 4294967295 l k hlt)
      have hN := feedN_lt t l[k] htl y0
      generalize l[k] = c at *
      go_wp2_with (go_at_call 13; refine (feed_any _ _ htl y0 _ HF.out).mono ?_; rintro e w' ⟨rfl, rfl⟩)
      go_round
      case rel => exact ⟨k + 1, feedN t c, by omega, by rw [HS.out, HT.out], hN, by go_num, rfl⟩
      case measure => simp [intOf]; omega
    · have hx := turn32 t htl
      have HE : Hid (t ^^^ 4294967295 = crcN l) := by
        have := HT.out
        rw [List.take_of_length_le (by omega)] at this
        rw [this]; rfl
      go_wp2
      go_ret
      exact ⟨ret_u32 HE.out, rfl⟩

theorem crc_none (a : Option Addr) (cap : Nat) (w : World) :
    Calls Tryd.prog 7 #[.slice a 0 cap] w fun e w' => e = .returned (.int .u32 ((crcN [] : Nat) : Int)) ∧ w = w' := by
  go_enter Tryd.func7, Tryd.ntmps7
  go_wp2
  go_loop [3, 8] (fun s i => i = .int .i64 0 ∧ s = .int .u32 4294967295) (fun _ i => 0)
  case atStart => exact ⟨rfl, rfl⟩
  case round =>
    obtain ⟨rfl, rfl⟩ := hrel
    have hx := xor32 4294967295 4294967295 (by omega) (by omega)
    go_wp2
    go_ret
    exact ⟨by rfl, rfl⟩

/-! The document's CRC. -/

theorem the_bit (r c m : Nat) (hc : c < 256) : bits .xor .u64 ((r : Int) % 2) (IntKind.u64.wrap (bits .and .u8 ((c : Int) / 2 ^ m) 1)) = ((r % 2 ^^^ c / 2 ^ m % 2 : Nat) : Int) := by
  have h2 : c / 2 ^ m < 256 := Nat.lt_of_le_of_lt (Nat.div_le_self _ _) hc
  have h := u8_and_nat (c / 2 ^ m) 1 h2 (by omega)
  rw [nat_mask1] at h
  have e : ((c : Int) / 2 ^ m) = ((c / 2 ^ m : Nat) : Int) := by simp
  have h' : bits .and .u8 ((c : Int) / 2 ^ m) 1 = ((c / 2 ^ m % 2 : Nat) : Int) := by rw [e]; exact h
  rw [h', IntKind.wrap_u64]
  have := u64_xor_nat (r % 2) (c / 2 ^ m % 2) (by omega) (by omega)
  rw [← this]
  congr 1
  omega

theorem the_turn (r : Nat) (hr : r < 4294967296) : bits .xor .u64 ((r : Int) / 2) 3988292384 = ((r / 2 ^^^ 3988292384 : Nat) : Int) := u64_xor_nat (r / 2) 3988292384 (by omega) (by omega)

set_option maxHeartbeats 400000 in
theorem ref_some (b off cap : Nat) (l : List Nat) (w : World) (hl : l.length ≤ maxLen) (hb : IsByte l) (hc : BytesIn w b off l) :
    Calls Tryd.prog 8 #[.slice (some ⟨b, off, none⟩) l.length cap] w fun e w' => e = .returned (.int .u32 ((crcN l : Nat) : Int)) ∧ w = w' := by
  unfold maxLen at hl
  have HC := Lib.hid hc
  have HB := Lib.hid hb
  clear hc hb
  go_enter Tryd.func8, Tryd.ntmps8
  go_wp2
  go_loop [3, 9] (fun s i => ∃ k t : Nat, k ≤ l.length ∧ t = feedAll 4294967295 (l.take k) ∧ t < 4294967296 ∧ i = .int .i64 k ∧ s = .int .u64 t) (fun _ i => l.length - (intOf i).toNat)
  case atStart => exact ⟨0, 4294967295, by omega, rfl, by omega, rfl, rfl⟩
  case round =>
    obtain ⟨k, t, hk, ht, htl, rfl, rfl⟩ := hrel
    have HT := Lib.hid ht
    clear ht
    by_cases hlt : k < l.length
    · have c0 := HC.out k hlt
      have y0 : l[k] < 256 := HB.out _ (List.getElem_mem hlt)
      have HS := Lib.hid (feedAll_take 4294967295 l k hlt)
      have hN := feedN_lt t l[k] htl y0
      generalize l[k] = c at *
      go_wp2
      go_loop [3, 12] (fun s i => ∃ m r : Nat, m ≤ 8 ∧ r = bitSteps t c m ∧ r < 4294967296 ∧ i = .int .i64 m ∧ s = .int .u64 r) (fun _ i => 8 - (intOf i).toNat)
      case atStart => exact ⟨0, t, by omega, rfl, htl, rfl, rfl⟩
      case round =>
        obtain ⟨m, r, hm, hr, hrl, rfl, rfl⟩ := hrel
        have HR := Lib.hid hr
        by_cases hlm : m < 8
        · have e1 := the_bit r c m y0
          have e2 := the_turn r hrl
          have hd : bitSteps t c (m + 1) = bitStep r c m := by rw [hr]; rfl
          have hb2 : bitStep r c m = r / 2 ^^^ (if (r % 2 ^^^ c / 2 ^ m % 2) = 1 then 3988292384 else 0) := rfl
          have hbl := bitStep_lt r c m hrl
          have HD := Lib.hid (hd.trans hb2)
          rw [hb2] at hbl
          have HL := Lib.hid hbl
          clear hd hb2 hbl hr
          generalize (r % 2 ^^^ c / 2 ^ m % 2) = d at *
          by_cases hd1 : d = 1
          · subst hd1
            have h1 : (((1 : Nat) : Int) == 1) = true := rfl
            go_wp2
            go_round
            case rel => exact ⟨m + 1, r / 2 ^^^ 3988292384, by omega, HD.out.symm, HL.out, by go_num, rfl⟩
            case measure => simp [intOf]; omega
          · have h1 : ((d : Int) == 1) = false := by simp; omega
            have HX := Lib.hid hd1
            clear hd1
            go_wp2
            go_round
            case rel =>
              have h3 := HD.out
              rw [if_neg HX.out, Nat.xor_zero] at h3
              exact ⟨m + 1, r / 2, by omega, h3.symm, by omega, by go_num, rfl⟩
            case measure => simp [intOf]; omega
        · have hm8 : m = 8 := by omega
          subst hm8
          clear hr
          go_wp2
          go_round
          case rel => exact ⟨k + 1, r, by omega, by rw [HS.out, ← HT.out, HR.out, bit_steps8 _ _ y0], hrl, by go_num, rfl⟩
          case measure => simp [intOf]; omega
    · have hx : bits .xor .u64 (t : Int) 4294967295 = ((t ^^^ 4294967295 : Nat) : Int) := u64_xor_nat t 4294967295 (by omega) (by omega)
      have HE : Hid (t ^^^ 4294967295 = crcN l) := by
        have := HT.out
        rw [List.take_of_length_le (by omega)] at this
        rw [this]; rfl
      have hlt : t ^^^ 4294967295 < 4294967296 := turn_lt t htl
      generalize t ^^^ 4294967295 = z at *
      go_wp2
      go_ret
      exact ⟨ret_u32 HE.out, rfl⟩

end Go.Proofs.YthnodhlgfokfjaaDoor
