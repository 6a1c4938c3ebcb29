/-
  The CRC in numbers: one halving, eight of them for a byte, a fold for a list; that halvings are linear (exclusive or), and what follows for tables and for windows that roll.
  SHA-256 in numbers: rotations, the two mixing functions, the words of a block, the rounds, the blocks of a padded message, and the bytes of the end.
  Bytes in memory, as the texts of the digest and of the CRC have them (a namespace of their own).
  A row of cells that a call fills, one after the other: the block as a whole.
  Rotations, and the words of a block, as package sum has them.
-/
import Derived.Test.YtfgaohilpbocbaaGreatDoorMm4
import Derived.Laws.BitsAllLaws
import Derived.Test.YtfgaohilpbocbaaGreatDoorRows
import Derived.WalkKit
import Derived.ProofKit
import Derived.OpenShut
import Derived.Below
import Derived.WalkSpells
import Derived.WalkLawsBesides
import Derived.Outline
import Derived.Deep.QuietTactic
import Derived.BigQuiet
import Derived.Lib.Hide
import Derived.Lib.SmallJoins
import Derived.Deep.WholeRow
import Derived.StillTailTactics
import Derived.IntWalk
section
namespace Go.Proofs.YtfgaohilpbocbaaGreatDoor.Sha

def stp (x : Nat) : Nat := x / 2 ^^^ (if x % 2 = 1 then 3988292384 else 0)

theorem xor_swap (a b c d : Nat) : (a ^^^ b) ^^^ (c ^^^ d) = (a ^^^ c) ^^^ (b ^^^ d) := by ac_rfl

theorem stp_xor (x y : Nat) : stp (x ^^^ y) = stp x ^^^ stp y := by
  unfold stp
  rw [Nat.xor_div_two, xor_swap]
  congr 1
  have h := @Nat.xor_mod_two_eq_one x y
  by_cases hx : x % 2 = 1 <;> by_cases hy : y % 2 = 1 <;> simp [hx, hy, h, Nat.xor_self]

theorem stp_even (y : Nat) : stp (2 * y) = y := by
  unfold stp
  rw [if_neg (by omega)]
  simp

theorem stp_lt (x : Nat) (h : x < 4294967296) : stp x < 4294967296 := by
  unfold stp
  have : x / 2 ^^^ (if x % 2 = 1 then 3988292384 else 0) < 2 ^ 32 := Nat.xor_lt_two_pow (by omega) (by split <;> omega)
  simpa using this

def stps : Nat → Nat → Nat
  | 0, x => x
  | k + 1, x => stp (stps k x)

theorem stps_xor (k x y : Nat) : stps k (x ^^^ y) = stps k x ^^^ stps k y := by
  induction k with
  | zero => rfl
  | succ k ih => simp only [stps, ih, stp_xor]

theorem stps_lt (k x : Nat) (h : x < 4294967296) : stps k x < 4294967296 := by
  induction k with
  | zero => exact h
  | succ k ih => exact stp_lt _ ih

theorem stps_add (k m x : Nat) : stps (k + m) x = stps k (stps m x) := by
  induction k with
  | zero => simp [stps]
  | succ k ih => rw [Nat.add_right_comm]; simp only [stps, ih]

def four (k : Nat) : Nat := [0, 498536548, 997073096, 651767980, 1994146192, 1802195444, 1303535960, 1342533948, 3988292384, 4027552580, 3604390888, 3412177804, 2607071920, 2262029012, 2685067896, 3183342108].getD k 0

theorem four_eq : ∀ k, k < 16 → stps 4 k = four k := by decide

theorem four_lt (k : Nat) (h : k < 16) : four k < 4294967296 := by
  rw [← four_eq k h]; exact stps_lt _ _ (by omega)

theorem split16 (x : Nat) : x = 2 * (2 * (2 * (2 * (x / 16)))) ^^^ x % 16 := by
  have h := Nat.two_pow_add_eq_or_of_lt (i := 4) (b := x % 16) (by omega) (x / 16)
  apply Nat.eq_of_testBit_eq
  intro i
  have e : 2 * (2 * (2 * (2 * (x / 16)))) = 2 ^ 4 * (x / 16) := by omega
  have hx : x = 2 ^ 4 * (x / 16) ||| x % 16 := by rw [← h]; omega
  have hm : x % 16 = x % 2 ^ 4 := rfl
  rw [e, Nat.testBit_xor, Nat.testBit_two_pow_mul, hm, Nat.testBit_mod_two_pow]
  conv => lhs; rw [hx, Nat.testBit_or, Nat.testBit_two_pow_mul, hm, Nat.testBit_mod_two_pow]
  by_cases h4 : i < 4
  · simp [h4, show ¬ 4 ≤ i by omega]
  · simp [h4]

theorem half_byte (x : Nat) : x / 16 ^^^ four (x % 16) = stps 4 x := by
  conv => rhs; rw [split16 x, stps_xor, four_eq _ (Nat.mod_lt _ (by omega))]
  simp [stps, stp_even]

/-- One more byte, into a CRC that isn't turned at last yet. -/
def feedN (s c : Nat) : Nat := stps 8 (s ^^^ c)

theorem byte_lt (s c : Nat) (hs : s < 4294967296) (hc : c < 256) : s ^^^ c < 4294967296 := by
  have : s ^^^ c < 2 ^ 32 := Nat.xor_lt_two_pow (by omega) (by omega)
  simpa using this

theorem feedN_lt (s c : Nat) (hs : s < 4294967296) (hc : c < 256) : feedN s c < 4294967296 := stps_lt _ _ (byte_lt s c hs hc)

theorem feed_eq (x : Nat) : (x / 16 ^^^ four (x % 16)) / 16 ^^^ four ((x / 16 ^^^ four (x % 16)) % 16) = stps 8 x := by
  rw [half_byte, half_byte, ← stps_add]

/-- A list of bytes, taken in from a state on. -/
def feedAll (s : Nat) (l : List Nat) : Nat := l.foldl feedN s

theorem feedAll_snoc (s : Nat) (l : List Nat) (c : Nat) : feedAll s (l ++ [c]) = feedN (feedAll s l) c := by simp [feedAll]

def IsByte (l : List Nat) : Prop := ∀ c ∈ l, c < 256

theorem feedAll_lt (l : List Nat) : ∀ (s : Nat), s < 4294967296 → IsByte l → feedAll s l < 4294967296 := by
  induction l with
  | nil => intro s hs _; exact hs
  | cons c l ih => intro s hs hl; exact ih _ (feedN_lt s c hs (hl c (by simp))) fun x hx => hl x (by simp [hx])

def crcN (l : List Nat) : Nat := feedAll 4294967295 l ^^^ 4294967295

theorem crc_known : crcN [49, 50, 51, 52, 53, 54, 55, 56, 57] = 3421780262 := by decide +kernel

theorem turn_lt (x : Nat) (h : x < 4294967296) : x ^^^ 4294967295 < 4294967296 := by
  have : x ^^^ 4294967295 < 2 ^ 32 := Nat.xor_lt_two_pow (by omega) (by omega)
  simpa using this

/-- The document's way: bit by bit, the byte's bits taken in one by one. -/
def bitStep (r b k : Nat) : Nat := r / 2 ^^^ (if (r % 2 ^^^ b / 2 ^ k % 2) = 1 then 3988292384 else 0)

theorem bit_step (r b k : Nat) : stp (r ^^^ b / 2 ^ k) = bitStep r b k ^^^ b / 2 ^ (k + 1) := by
  unfold stp bitStep
  have e : b / 2 ^ (k + 1) = b / 2 ^ k / 2 := by rw [Nat.pow_succ, Nat.div_div_eq_div_mul]
  rw [Nat.xor_div_two, e]
  have h := @Nat.xor_mod_two_eq_one r (b / 2 ^ k)
  have h2 : (r % 2 ^^^ b / 2 ^ k % 2) = (r ^^^ b / 2 ^ k) % 2 := by
    have := @Nat.xor_mod_two_pow r (b / 2 ^ k) 1
    simpa using this.symm
  rw [h2]
  ac_rfl

def bitSteps (r b : Nat) : Nat → Nat
  | 0 => r
  | k + 1 => bitStep (bitSteps r b k) b k

theorem bit_steps (r b k : Nat) : stps k (r ^^^ b) = bitSteps r b k ^^^ b / 2 ^ k := by
  induction k with
  | zero => simp [stps, bitSteps]
  | succ k ih => simp only [stps, bitSteps, ih, bit_step]

theorem bit_steps8 (r b : Nat) (h : b < 256) : bitSteps r b 8 = feedN r b := by
  have := bit_steps r b 8
  rw [show b / 2 ^ 8 = 0 by omega, Nat.xor_zero] at this
  exact this.symm

theorem bitStep_lt (r b k : Nat) (h : r < 4294967296) : bitStep r b k < 4294967296 := by
  unfold bitStep
  have : r / 2 ^^^ (if (r % 2 ^^^ b / 2 ^ k % 2) = 1 then 3988292384 else 0) < 2 ^ 32 := Nat.xor_lt_two_pow (by omega) (by split <;> omega)
  simpa using this

theorem bitSteps_lt (r b k : Nat) (h : r < 4294967296) : bitSteps r b k < 4294967296 := by
  induction k with
  | zero => exact h
  | succ k ih => exact bitStep_lt _ _ _ ih

/-! Windows that roll. -/

def zeros : Nat → Nat → Nat
  | 0, x => x
  | n + 1, x => feedN (zeros n x) 0

theorem zeros_eq (n x : Nat) : zeros n x = stps (8 * n) x := by
  induction n with
  | zero => rfl
  | succ n ih => rw [zeros, feedN, Nat.xor_zero, ih, ← stps_add]; congr 1; omega

def leftN (c n : Nat) : Nat := zeros n (feedN 4294967295 c ^^^ 4294967295)

theorem feedN_xor (s d c : Nat) : feedN (s ^^^ d) c = feedN s c ^^^ stps 8 d := by
  unfold feedN
  rw [← stps_xor]
  congr 1
  ac_rfl

theorem feedAll_xor (l : List Nat) : ∀ (s d : Nat), feedAll (s ^^^ d) l = feedAll s l ^^^ stps (8 * l.length) d := by
  induction l with
  | nil => intro s d; rfl
  | cons c l ih =>
    intro s d
    show feedAll (feedN (s ^^^ d) c) l = feedAll (feedN s c) l ^^^ _
    rw [feedN_xor, ih, ← stps_add]
    congr 2

theorem xor_back (a b : Nat) : a ^^^ (b ^^^ a) = b := by
  rw [Nat.xor_comm b a, ← Nat.xor_assoc, Nat.xor_self, Nat.zero_xor]

theorem xor_back' (a b : Nat) : a ^^^ b ^^^ b = a := by
  rw [Nat.xor_assoc, Nat.xor_self, Nat.xor_zero]

theorem roll (o i : Nat) (l : List Nat) : feedN (crcN (o :: l) ^^^ 4294967295) i ^^^ 4294967295 ^^^ leftN o (l.length + 1) = crcN (l ++ [i]) := by
  unfold crcN leftN
  rw [xor_back', ← feedAll_snoc, zeros_eq]
  have h : feedAll 4294967295 (o :: l ++ [i]) = feedAll (4294967295 ^^^ (feedN 4294967295 o ^^^ 4294967295)) (l ++ [i]) := by rw [xor_back]; rfl
  rw [h, feedAll_xor]
  have e : (l ++ [i]).length = l.length + 1 := by simp
  rw [e]
  generalize stps _ _ = A
  generalize feedAll _ _ = B
  rw [Nat.xor_assoc B, Nat.xor_comm A, Nat.xor_assoc, Nat.xor_assoc, Nat.xor_self, Nat.xor_zero]

theorem leftN_eq (c n : Nat) : leftN c n = leftN 0 n ^^^ stps (8 * n + 8) c := by
  unfold leftN
  rw [zeros_eq, zeros_eq, stps_add]
  have h : feedN 4294967295 c = feedN 4294967295 0 ^^^ stps 8 c := by
    unfold feedN
    rw [Nat.xor_zero, stps_xor]
  rw [h, stps_xor, stps_xor, stps_xor]
  ac_rfl

theorem leftN_sum (a b n : Nat) : leftN a n ^^^ leftN b n ^^^ leftN 0 n = leftN (a ^^^ b) n := by
  rw [leftN_eq a, leftN_eq b, leftN_eq (a ^^^ b), stps_xor]
  generalize leftN 0 n = K
  generalize stps (8 * n + 8) a = A
  generalize stps (8 * n + 8) b = B
  rw [show K ^^^ A ^^^ (K ^^^ B) ^^^ K = (K ^^^ K) ^^^ (K ^^^ (A ^^^ B)) by ac_rfl, Nat.xor_self, Nat.zero_xor]

theorem zeros_lt (n x : Nat) (h : x < 4294967296) : zeros n x < 4294967296 := by
  rw [zeros_eq]; exact stps_lt _ _ h

theorem leftN_lt (c n : Nat) (h : c < 256) : leftN c n < 4294967296 := zeros_lt _ _ (turn_lt _ (feedN_lt _ _ (by omega) h))

end Go.Proofs.YtfgaohilpbocbaaGreatDoor.Sha
end

section
namespace Go.Proofs.YtfgaohilpbocbaaGreatDoor.Sha
open Go

def rotr (x n : Nat) : Nat := x % 2 ^ n * 2 ^ (32 - n) + x / 2 ^ n

theorem pow_split (n : Nat) (hn : n ≤ 32) : 2 ^ n * 2 ^ (32 - n) = 4294967296 := by
  rw [← Nat.pow_add, show n + (32 - n) = 32 by omega]

theorem div_lt32 (x n : Nat) (hx : x < 4294967296) (hn : n ≤ 32) : x / 2 ^ n < 2 ^ (32 - n) :=
  Nat.div_lt_of_lt_mul (by rw [pow_split n hn]; exact hx)

theorem rotr_lt (x n : Nat) (hx : x < 4294967296) (hn : n ≤ 32) : rotr x n < 4294967296 := by
  unfold rotr
  have h1 := div_lt32 x n hx hn
  have h2 : x % 2 ^ n + 1 ≤ 2 ^ n := Nat.mod_lt _ (Nat.two_pow_pos n)
  have h3 := Nat.mul_le_mul_right (2 ^ (32 - n)) h2
  rw [pow_split n hn, Nat.add_mul, Nat.one_mul] at h3
  omega

theorem rotr_left (x n : Nat) (hx : x < 4294967296) (hn : n ≤ 32) : (x * 2 ^ (32 - n) % 4294967296) ||| (x / 2 ^ n) = rotr x n := by
  have h1 := div_lt32 x n hx hn
  have e : x * 2 ^ (32 - n) % 4294967296 = x % 2 ^ n * 2 ^ (32 - n) := by
    rw [← pow_split n hn, Nat.mul_mod_mul_right]
  rw [e, nat_join (32 - n) _ _ (by simp) h1]
  rfl

theorem rotr_wide (x n : Nat) (hx : x < 4294967296) (hn : n ≤ 32) : (x / 2 ^ n ||| x * 2 ^ (32 - n)) % 4294967296 = rotr x n := by
  have h1 := div_lt32 x n hx hn
  rw [Nat.or_comm, nat_join (32 - n) _ _ (by simp) h1]
  have h2 := Nat.div_add_mod x (2 ^ n)
  have h3 : x * 2 ^ (32 - n) = x / 2 ^ n * 4294967296 + x % 2 ^ n * 2 ^ (32 - n) := by
    conv => lhs; rw [← h2]
    rw [Nat.add_mul, Nat.mul_comm (2 ^ n), Nat.mul_assoc, pow_split n hn]
  have h4 := rotr_lt x n hx hn
  unfold rotr at h4 ⊢
  rw [h3]
  omega

def bigA (x : Nat) : Nat := rotr x 2 ^^^ rotr x 13 ^^^ rotr x 22
def bigE (x : Nat) : Nat := rotr x 6 ^^^ rotr x 11 ^^^ rotr x 25
def smallA (x : Nat) : Nat := rotr x 7 ^^^ rotr x 18 ^^^ x / 8
def smallE (x : Nat) : Nat := rotr x 17 ^^^ rotr x 19 ^^^ x / 1024

theorem xor_bd {a b : Nat} (ha : a < 4294967296) (hb : b < 4294967296) : a ^^^ b < 4294967296 := by
  have : a ^^^ b < 2 ^ 32 := Nat.xor_lt_two_pow (by omega) (by omega)
  simpa using this
theorem and_bd {a : Nat} (b : Nat) (ha : a < 4294967296) : a &&& b < 4294967296 := Nat.lt_of_le_of_lt Nat.and_le_left ha
theorem or_bd {a b : Nat} (ha : a < 4294967296) (hb : b < 4294967296) : a ||| b < 4294967296 := by
  have : a ||| b < 2 ^ 32 := Nat.or_lt_two_pow (by omega) (by omega)
  simpa using this

theorem bigA_lt {x : Nat} (h : x < 4294967296) : bigA x < 4294967296 := xor_bd (xor_bd (rotr_lt x 2 h (by omega)) (rotr_lt x 13 h (by omega))) (rotr_lt x 22 h (by omega))
theorem bigE_lt {x : Nat} (h : x < 4294967296) : bigE x < 4294967296 := xor_bd (xor_bd (rotr_lt x 6 h (by omega)) (rotr_lt x 11 h (by omega))) (rotr_lt x 25 h (by omega))
theorem smallA_lt {x : Nat} (h : x < 4294967296) : smallA x < 4294967296 := xor_bd (xor_bd (rotr_lt x 7 h (by omega)) (rotr_lt x 18 h (by omega))) (by omega)
theorem smallE_lt {x : Nat} (h : x < 4294967296) : smallE x < 4294967296 := xor_bd (xor_bd (rotr_lt x 17 h (by omega)) (rotr_lt x 19 h (by omega))) (by omega)

def chN (t u v : Nat) : Nat := t &&& u ^^^ (4294967295 - t) &&& v
def majN (p q r : Nat) : Nat := p &&& q ^^^ p &&& r ^^^ q &&& r

theorem not_eq (t : Nat) (h : t < 4294967296) : 4294967295 ^^^ t = 4294967295 - t := by
  apply Nat.eq_of_testBit_eq
  intro i
  have e : 4294967295 - t = 2 ^ 32 - (t + 1) := by omega
  rw [e, Nat.testBit_two_pow_sub_succ (by omega), Nat.testBit_xor, show (4294967295 : Nat) = 2 ^ 32 - 1 from rfl, Nat.testBit_two_pow_sub_one]
  by_cases hi : i < 32
  · simp [hi]
  · have : t.testBit i = false := Nat.testBit_lt_two_pow (Nat.lt_of_lt_of_le h (by have := Nat.pow_le_pow_right (show 0 < 2 by omega) (show 32 ≤ i by omega); simpa using this))
    simp [hi, this]

theorem ch_or (t u v : Nat) (h : t < 4294967296) : (t &&& u ||| (4294967295 ^^^ t) &&& v) = chN t u v := by
  unfold chN
  rw [← not_eq t h]
  apply Nat.eq_of_testBit_eq
  intro i
  rw [Nat.testBit_or, Nat.testBit_xor, Nat.testBit_and, Nat.testBit_and, Nat.testBit_xor, show (4294967295 : Nat) = 2 ^ 32 - 1 from rfl, Nat.testBit_two_pow_sub_one]
  by_cases hi : i < 32
  · simp only [hi, decide_true]
    cases t.testBit i <;> cases u.testBit i <;> cases v.testBit i <;> rfl
  · have : t.testBit i = false := Nat.testBit_lt_two_pow (Nat.lt_of_lt_of_le h (by have := Nat.pow_le_pow_right (show 0 < 2 by omega) (show 32 ≤ i by omega); simpa using this))
    simp [hi, this]

theorem maj_or (p q r : Nat) : (p &&& q ||| p &&& r ||| q &&& r) = majN p q r := by
  unfold majN
  apply Nat.eq_of_testBit_eq
  intro i
  simp only [Nat.testBit_or, Nat.testBit_xor, Nat.testBit_and]
  cases p.testBit i <;> cases q.testBit i <;> cases r.testBit i <;> rfl

theorem chN_lt {t u v : Nat} (ht : t < 4294967296) (hv : v < 4294967296) : chN t u v < 4294967296 := xor_bd (and_bd _ ht) (by rw [Nat.and_comm]; exact and_bd _ hv)
theorem majN_lt {p q r : Nat} (hp : p < 4294967296) (hq : q < 4294967296) : majN p q r < 4294967296 := xor_bd (xor_bd (and_bd _ hp) (and_bd _ hp)) (and_bd _ hq)

/-- The word of four bytes, the greatest first. -/
def be32 (b : Nat → Nat) (i : Nat) : Nat := ((b (4 * i) * 256 + b (4 * i + 1)) * 256 + b (4 * i + 2)) * 256 + b (4 * i + 3)

/-- The words of a block of bytes. -/
def wd (b : Nat → Nat) (i : Nat) : Nat :=
  if h : i < 16 then be32 b i else (wd b (i - 16) + smallA (wd b (i - 15)) + wd b (i - 7) + smallE (wd b (i - 2))) % 4294967296
termination_by i

def BytesF (b : Nat → Nat) : Prop := ∀ i, b i < 256

theorem be32_lt {b : Nat → Nat} (h : BytesF b) (i : Nat) : be32 b i < 4294967296 := by
  unfold be32
  have h0 := h (4 * i); have h1 := h (4 * i + 1); have h2 := h (4 * i + 2); have h3 := h (4 * i + 3)
  omega

theorem wd_first (b : Nat → Nat) (i : Nat) (h : i < 16) : wd b i = be32 b i := by rw [wd, dif_pos h]
theorem wd_next (b : Nat → Nat) (i : Nat) (h : 16 ≤ i) : wd b i = (wd b (i - 16) + smallA (wd b (i - 15)) + wd b (i - 7) + smallE (wd b (i - 2))) % 4294967296 := by
  conv => lhs; rw [wd, dif_neg (by omega)]
theorem wd_lt {b : Nat → Nat} (h : BytesF b) (i : Nat) : wd b i < 4294967296 := by
  rw [wd]
  split
  · exact be32_lt h i
  · exact Nat.mod_lt _ (by omega)

def kL : List Nat := [1116352408, 1899447441, 3049323471, 3921009573, 961987163, 1508970993, 2453635748, 2870763221, 3624381080, 310598401, 607225278, 1426881987, 1925078388, 2162078206, 2614888103, 3248222580, 3835390401, 4022224774, 264347078, 604807628, 770255983, 1249150122, 1555081692, 1996064986, 2554220882, 2821834349, 2952996808, 3210313671, 3336571891, 3584528711, 113926993, 338241895, 666307205, 773529912, 1294757372, 1396182291, 1695183700, 1986661051, 2177026350, 2456956037, 2730485921, 2820302411, 3259730800, 3345764771, 3516065817, 3600352804, 4094571909, 275423344, 430227734, 506948616, 659060556, 883997877, 958139571, 1322822218, 1537002063, 1747873779, 1955562222, 2024104815, 2227730452, 2361852424, 2428436474, 2756734187, 3204031479, 3329325298]
def kN (i : Nat) : Nat := kL.getD i 0

theorem kN_lt : ∀ i, i < 64 → kN i < 4294967296 := by decide

/-- The state: eight words. -/
structure S8 where
  p : Nat
  q : Nat
  r : Nat
  s : Nat
  t : Nat
  u : Nat
  v : Nat
  w : Nat

structure S8.Ok (x : S8) : Prop where
  p : x.p < 4294967296
  q : x.q < 4294967296
  r : x.r < 4294967296
  s : x.s < 4294967296
  t : x.t < 4294967296
  u : x.u < 4294967296
  v : x.v < 4294967296
  w : x.w < 4294967296

def one8 (x : S8) (k c : Nat) : Nat := x.w + bigE x.t + chN x.t x.u x.v + k + c
def two8 (x : S8) : Nat := bigA x.p + majN x.p x.q x.r

def rnd (x : S8) (k c : Nat) : S8 := ⟨(one8 x k c + two8 x) % 4294967296, x.p, x.q, x.r, (x.s + one8 x k c) % 4294967296, x.t, x.u, x.v⟩

theorem rnd_ok {x : S8} (h : x.Ok) (k c : Nat) : (rnd x k c).Ok := ⟨Nat.mod_lt _ (by omega), h.p, h.q, h.r, Nat.mod_lt _ (by omega), h.t, h.u, h.v⟩

def rnds (x : S8) (b : Nat → Nat) : Nat → S8
  | 0 => x
  | n + 1 => rnd (rnds x b n) (kN n) (wd b n)

theorem rnds_ok {x : S8} (h : x.Ok) (b : Nat → Nat) (n : Nat) : (rnds x b n).Ok := by
  induction n with
  | zero => exact h
  | succ n ih => exact rnd_ok ih _ _

def add8 (x y : S8) : S8 := ⟨(x.p + y.p) % 4294967296, (x.q + y.q) % 4294967296, (x.r + y.r) % 4294967296, (x.s + y.s) % 4294967296, (x.t + y.t) % 4294967296, (x.u + y.u) % 4294967296, (x.v + y.v) % 4294967296, (x.w + y.w) % 4294967296⟩

theorem add8_ok (x y : S8) : (add8 x y).Ok := ⟨Nat.mod_lt _ (by omega), Nat.mod_lt _ (by omega), Nat.mod_lt _ (by omega), Nat.mod_lt _ (by omega), Nat.mod_lt _ (by omega), Nat.mod_lt _ (by omega), Nat.mod_lt _ (by omega), Nat.mod_lt _ (by omega)⟩

def mixN (x : S8) (b : Nat → Nat) : S8 := add8 x (rnds x b 64)

def start8 : S8 := ⟨1779033703, 3144134277, 1013904242, 2773480762, 1359893119, 2600822924, 528734635, 1541459225⟩
theorem start_ok : start8.Ok := ⟨by decide, by decide, by decide, by decide, by decide, by decide, by decide, by decide⟩

/-- The state behind k blocks of a message. -/
def comp (l : List Nat) : Nat → S8
  | 0 => start8
  | k + 1 => mixN (comp l k) (fun j => l.getD (64 * k + j) 0)

theorem comp_ok (l : List Nat) (k : Nat) : (comp l k).Ok := by
  cases k with
  | zero => exact start_ok
  | succ k => exact add8_ok _ _

def S8.get (x : S8) (i : Nat) : Nat := [x.p, x.q, x.r, x.s, x.t, x.u, x.v, x.w].getD i 0

/-- The bytes of a state. -/
def spellN (x : S8) : List Nat := (List.range 32).map fun i => x.get (i / 4) / 2 ^ (24 - 8 * (i % 4)) % 256

/-- A number's eight bytes, the greatest first. -/
def be64 (n : Nat) : List Nat := (List.range 8).map fun i => n / 2 ^ (8 * (7 - i)) % 256

/-- How many noughts a message is filled with. -/
def gap (n : Nat) : Nat := (119 - n % 64) % 64

/-- The padded message. -/
def padN (l : List Nat) : List Nat := l ++ 128 :: (List.replicate (gap l.length) 0 ++ be64 (l.length * 8))

def digestN (l : List Nat) : List Nat := spellN (comp (padN l) ((padN l).length / 64))

theorem padN_length (l : List Nat) : (padN l).length = l.length + 9 + gap l.length := by
  simp [padN, be64]; omega

theorem padN_mod (l : List Nat) : (padN l).length % 64 = 0 := by
  rw [padN_length]; unfold gap; omega

theorem padN_byte {l : List Nat} (h : IsByte l) : IsByte (padN l) := by
  intro c hc
  simp only [padN, be64, List.mem_append, List.mem_cons, List.mem_replicate, List.mem_map] at hc
  rcases hc with h1 | h1 | ⟨_, h1⟩ | ⟨i, _, h1⟩
  · exact h c h1
  · omega
  · omega
  · rw [← h1]; exact Nat.mod_lt _ (by omega)

theorem getD_byte {l : List Nat} (h : IsByte l) (k : Nat) : BytesF (fun j => l.getD (k + j) 0) := by
  intro j
  show l.getD (k + j) 0 < 256
  by_cases hj : k + j < l.length
  · simp only [List.getD, List.getElem?_eq_getElem hj, Option.getD_some]; exact h _ (List.getElem_mem hj)
  · simp only [List.getD, List.getElem?_eq_none (by omega : l.length ≤ k + j), Option.getD_none]; omega

end Go.Proofs.YtfgaohilpbocbaaGreatDoor.Sha
end

section
namespace Go.Proofs.YtfgaohilpbocbaaGreatDoor.Sha
open Go.ChangeShapes Go.WideShapes Go.ChangeAt Go.RowKit
set_option linter.unusedVariables false

theorem xor32 (a b : Nat) (ha : a < 4294967296) (hb : b < 4294967296) : bits .xor .u32 (a : Int) (b : Int) = ((a ^^^ b : Nat) : Int) := u32_xor_nat a b ha hb

theorem mask15 (a : Nat) (ha : a < 4294967296) : bits .and .u32 (a : Int) 15 = ((a % 16 : Nat) : Int) := by
  have := u32_and_nat a 15 ha (by omega)
  rw [nat_mask4] at this
  exact this

theorem turn32 (a : Nat) (ha : a < 4294967296) : bits .xor .u32 (a : Int) 4294967295 = ((a ^^^ 4294967295 : Nat) : Int) := u32_xor_nat a 4294967295 ha (by omega)

theorem xor_lt32 {a b : Nat} (ha : a < 4294967296) (hb : b < 4294967296) : a ^^^ b < 4294967296 := by
  have : a ^^^ b < 2 ^ 32 := Nat.xor_lt_two_pow (by omega) (by omega)
  simpa using this

def BytesIn (w : World) (b off : Nat) (l : List Nat) : Prop := ∀ i (h : i < l.length), w.cell? ⟨b, off + i, none⟩ = some (.int .u8 ((l[i] : Nat) : Int))

theorem isByte_take {l : List Nat} (h : IsByte l) (k : Nat) : IsByte (l.take k) := fun c hc => h c (List.mem_of_mem_take hc)

theorem ret_u32 {a b : Nat} (h : a = b) : Ending.returned (.int .u32 (a : Int)) = .returned (.int .u32 (b : Int)) := by rw [h]

def BytesAt (w : World) (a : Option Addr) (l : List Nat) : Prop := l = [] ∨ ∃ b off, a = some ⟨b, off, none⟩ ∧ BytesIn w b off l

theorem BytesIn.below {w w' : World} {B b off : Nat} {l : List Nat} (h : BytesIn w b off l) (hB : w.heap.size ≤ B) (hb : Below B w w') : BytesIn w' b off l := fun i hi => by
  rw [hb.cell (p := ⟨b, off + i, none⟩) (Nat.lt_of_lt_of_le (World.block_lt_of_cell? w _ (h i hi)) hB)]; exact h i hi

theorem BytesAt.below {w w' : World} {B : Nat} {a : Option Addr} {l : List Nat} (h : BytesAt w a l) (hB : w.heap.size ≤ B) (hb : Below B w w') : BytesAt w' a l := by
  rcases h with h | ⟨b, off, e, h⟩
  · exact .inl h
  · exact .inr ⟨b, off, e, h.below hB hb⟩

theorem cell_new (w : World) (C : Array Value) (e : TypeId) (f : Nat × Nat) (k : Nat) : (w.alloc (.cells C e f)).cell? ⟨w.heap.size, k, none⟩ = C[k]? := by
  have : (w.alloc (.cells C e f)).heap[w.heap.size]? = some (.cells C e f) := by
    show (w.heap.push (.cells C e f))[w.heap.size]? = _
    simp
  simp only [World.cell?, this]
  rfl

theorem bytesIn_new (w : World) (l : List Nat) (C : Array Value) (e : TypeId) (f : Nat × Nat) (h : C = (l.map fun c : Nat => Value.int .u8 (c : Int)).toArray) : BytesIn (w.alloc (.cells C e f)) w.heap.size 0 l := fun i hi => by
  rw [Nat.zero_add, cell_new, h]; simp [hi]
end Go.Proofs.YtfgaohilpbocbaaGreatDoor.Sha
end

section
namespace Go.Proofs.YtfgaohilpbocbaaGreatDoor.Sha
open Go.RowKit Go.Joins
set_option linter.unusedVariables false

/-- Block B is a row of n cells; the first k are as g says. -/
def Row (w : World) (B : Nat) (ty : TypeId) (n k : Nat) (g : Nat → Value) : Prop :=
  ∃ cs, w.heap[B]? = some (.cells cs ty (0, 0)) ∧ cs.size = n ∧ ∀ j, j < k → cs[j]? = some (g j)

theorem Row.cell {w : World} {B : Nat} {ty : TypeId} {n k : Nat} {g : Nat → Value} (h : Row w B ty n k g) (j : Nat) (hj : j < k) : w.cell? ⟨B, j, none⟩ = some (g j) := by
  obtain ⟨cs, h1, _, h3⟩ := h
  rw [cell_of_block h1]; exact h3 j hj

theorem Row.has {w : World} {B : Nat} {ty : TypeId} {n k : Nat} {g : Nat → Value} (h : Row w B ty n k g) (j : Nat) (hj : j < n) : ∃ v, w.cell? ⟨B, j, none⟩ = some v := by
  obtain ⟨cs, h1, h2, _⟩ := h
  exact ⟨cs[j], by rw [cell_of_block h1]; simp [h2, hj]⟩

theorem Row.loose {w : World} {B : Nat} {ty : TypeId} {n k : Nat} {g : Nat → Value} (h : Row w B ty n k g) (j : Nat) : w.frozen? ⟨B, j, none⟩ = false := by
  obtain ⟨cs, h1, _, _⟩ := h
  exact unfrozen_of_block h1 j

theorem Row.lt {w : World} {B : Nat} {ty : TypeId} {n k : Nat} {g : Nat → Value} (h : Row w B ty n k g) : B < w.heap.size := by
  obtain ⟨cs, h1, _, _⟩ := h
  exact (Array.getElem?_eq_some_iff.1 h1).1

theorem Row.set {w : World} {B : Nat} {ty : TypeId} {n k : Nat} {g : Nat → Value} (h : Row w B ty n k g) (hk : k < n) {v : Value} (hv : v = g k) : Row (w.setCell ⟨B, k, none⟩ v) B ty n (k + 1) g := by
  obtain ⟨cs, h1, h2, h3⟩ := h
  refine ⟨cs.setIfInBounds k v, block_setCell h1 v, by simp [h2], fun j hj => ?_⟩
  by_cases e : j = k
  · subst e; simp [h2, hk, hv]
  · rw [Array.getElem?_setIfInBounds_ne (by omega)]; exact h3 j (by omega)

/-- A cell of a row is written. -/
theorem Row.upd {w : World} {B : Nat} {ty : TypeId} {n m : Nat} {g : Nat → Value} (h : Row w B ty n m g) (k : Nat) (hk : k < n) (v : Value) : Row (w.setCell ⟨B, k, none⟩ v) B ty n m (fun j => if j = k then v else g j) := by
  obtain ⟨cs, h1, h2, h3⟩ := h
  refine ⟨cs.setIfInBounds k v, Joins.block_setCell h1 v, by simp [h2], fun j hj => ?_⟩
  by_cases e : j = k
  · subst e; simp [h2, hk]
  · rw [Array.getElem?_setIfInBounds_ne (by omega)]; simp only [e, if_false]; exact h3 j hj

/-- Another block is written. -/
theorem Row.other {w : World} {B C : Nat} {ty : TypeId} {n k i : Nat} {g : Nat → Value} {v : Value} (h : Row w B ty n k g) (hne : B ≠ C) : Row (w.setCell ⟨C, i, none⟩ v) B ty n k g := by
  obtain ⟨cs, h1, h2, h3⟩ := h
  exact ⟨cs, by rw [Below.heap_setCell _ _ _ _ hne]; exact h1, h2, h3⟩

theorem Row.below {w w' : World} {B C : Nat} {ty : TypeId} {n k : Nat} {g : Nat → Value} (h : Row w B ty n k g) (hb : Below C w w') (hC : B < C) : Row w' B ty n k g := by
  obtain ⟨cs, h1, h2, h3⟩ := h
  exact ⟨cs, by rw [hb.block _ hC]; exact h1, h2, h3⟩

theorem Row.drew {w : World} {B : Nat} {ty : TypeId} {n k : Nat} {g : Nat → Value} (h : Row w B ty n k g) (q : Nat) : Row (w.drewN q) B ty n k g := h

theorem Row.mono {w : World} {B : Nat} {ty : TypeId} {n k m : Nat} {g f : Nat → Value} (h : Row w B ty n k g) (hm : m ≤ k) (hf : ∀ j, j < m → g j = f j) : Row w B ty n m f := by
  obtain ⟨cs, h1, h2, h3⟩ := h
  exact ⟨cs, h1, h2, fun j hj => by rw [h3 j (by omega), hf j hj]⟩

/-- What a whole row holds. -/
def rowArr (n : Nat) (g : Nat → Value) : Array Value := ((List.range n).map g).toArray

theorem rowArr_size (n : Nat) (g : Nat → Value) : (rowArr n g).size = n := by simp [rowArr]

theorem Row.whole {w : World} {B : Nat} {ty : TypeId} {n : Nat} {g : Nat → Value} (h : Row w B ty n n g) : w.heap[B]? = some (.cells (rowArr n g) ty (0, 0)) := by
  obtain ⟨cs, h1, h2, h3⟩ := h
  have : cs = rowArr n g := by
    apply Array.ext_getElem?
    intro i
    by_cases hi : i < n
    · rw [h3 i hi]; simp [rowArr, hi]
    · simp [rowArr, h2, hi]
  rw [← this]; exact h1

theorem Row.of_whole {w : World} {B : Nat} {ty : TypeId} {n : Nat} {g : Nat → Value} (h : w.heap[B]? = some (.cells (rowArr n g) ty (0, 0))) : Row w B ty n n g :=
  ⟨_, h, rowArr_size n g, fun j hj => by simp [rowArr, hj]⟩

/-- A new block, nothing known of it but its length. -/
theorem Row.new (w : World) (cs : Array Value) (ty : TypeId) (g : Nat → Value) : Row (w.alloc (.cells cs ty)) w.heap.size ty cs.size 0 g :=
  ⟨cs, heap_alloc_last w _, rfl, fun j hj => by omega⟩

theorem Row.new' (w : World) (cs : Array Value) (ty : TypeId) (g : Nat → Value) (B n : Nat) (hB : B = w.heap.size) (hn : cs.size = n) : Row (w.alloc (.cells cs ty)) B ty n 0 g := by
  subst hB hn; exact Row.new w cs ty g

theorem Row.new_whole (w : World) (cs : Array Value) (ty : TypeId) (g : Nat → Value) (B n : Nat) (hB : B = w.heap.size) (hn : cs = rowArr n g) : Row (w.alloc (.cells cs ty)) B ty n n g := by
  subst hB hn; exact Row.of_whole (heap_alloc_last w _)

theorem Row.alloc {w : World} {B : Nat} {ty : TypeId} {n k : Nat} {g : Nat → Value} (h : Row w B ty n k g) (o : Obj) : Row (w.alloc o) B ty n k g := by
  have hlt := h.lt
  obtain ⟨cs, h1, h2, h3⟩ := h
  exact ⟨cs, by rw [Below.heap_alloc _ _ _ hlt]; exact h1, h2, h3⟩

/-- A whole row is written, in a block of the call's own. -/
theorem below_setRow {B g : Nat} {a w : World} (h : Below B a w) (hg : B ≤ g) (cs : Array Value) : Below B a (w.setRow g cs) :=
  h.trans ⟨setRow_os _ _ _, setRow_tape _ _ _, setRow_output _ _ _, by simp [World.setRow], fun k hk => setRow_other _ _ _ _ (by omega)⟩

theorem Row.whole_set {w : World} {B : Nat} {ty : TypeId} {n k : Nat} {g f : Nat → Value} (h : Row w B ty n k g) : Row (w.setRow B (rowArr n f)) B ty n n f := by
  obtain ⟨cs, h1, _, _⟩ := h
  exact Row.of_whole (setRow_heap _ _ _ _ _ _ h1)

theorem Row.setRow_other {w : World} {B C : Nat} {ty : TypeId} {n k : Nat} {g : Nat → Value} (h : Row w B ty n k g) (hne : B ≠ C) (cs : Array Value) : Row (w.setRow C cs) B ty n k g := by
  obtain ⟨cs', h1, h2, h3⟩ := h
  exact ⟨cs', by rw [Go.setRow_other _ _ _ _ hne]; exact h1, h2, h3⟩

end Go.Proofs.YtfgaohilpbocbaaGreatDoor.Sha
end

section
namespace Go.Proofs.YtfgaohilpbocbaaGreatDoor.Sha
open Go.ChangeShapes Go.WideShapes Go.ChangeAt Go.RowKit
set_option linter.unusedVariables false

theorem rot_any (x n : Nat) (hx : x < 4294967296) (h1 : 1 ≤ n) (h2 : n ≤ 31) (w : World) :
    Calls Tryz.prog 135 #[.int .u32 (x : Int), .int .i64 (-(n : Int))] w fun e w' => e = .returned (.int .u32 ((rotr x n : Nat) : Int)) ∧ w = w' := by
  have e1 : bits .and .u64 (IntKind.u64.wrap (-(n : Int))) 31 = ((32 - n : Nat) : Int) := by
    rw [IntKind.wrap_u64]
    have e : (-(n : Int)) % 18446744073709551616 = ((18446744073709551616 - n : Nat) : Int) := by omega
    rw [e]
    have := u64_and_nat (18446744073709551616 - n) 31 (by omega) (by omega)
    rw [nat_mask5] at this
    rw [show (18446744073709551616 - n) % 32 = 32 - n by omega] at this
    exact this
  have e2 : bits .or .u32 ((x : Int) * 2 ^ (32 - n) % 4294967296) ((x : Int) / 2 ^ (32 - (32 - n))) = ((rotr x n : Nat) : Int) := by
    rw [show 32 - (32 - n) = n by omega]
    have := u32_or_nat (x * 2 ^ (32 - n) % 4294967296) (x / 2 ^ n) (Nat.mod_lt _ (by omega)) (Nat.lt_of_le_of_lt (Nat.div_le_self _ _) hx)
    rw [rotr_left x n hx (by omega)] at this
    rw [← this]
    simp
  have E2 := Lib.hid e2
  clear e2
  go_enter Tryz.func135, Tryz.ntmps135
  go_wp2
  go_ret
  exact ⟨congrArg (fun z => Ending.returned (.int .u32 z)) E2.out, rfl⟩

theorem rot_at (x n : Nat) (m : Int) (hm : m = -(n : Int)) (hx : x < 4294967296) (h1 : 1 ≤ n) (h2 : n ≤ 31) (w : World) :
    Calls Tryz.prog 135 #[.int .u32 (x : Int), .int .i64 m] w fun e w' => e = .returned (.int .u32 ((rotr x n : Nat) : Int)) ∧ w = w' := by
  subst hm; exact rot_any x n hx h1 h2 w

theorem xor_shr (a b s k : Nat) (hs : s = 2 ^ k) (ha : a < 4294967296) (hb : b < 4294967296) : bits .xor .u32 (a : Int) ((b : Int) / (s : Int)) = ((a ^^^ b / s : Nat) : Int) :=
  xor32 a (b / s) ha (Nat.lt_of_le_of_lt (Nat.div_le_self _ _) hb)

def wordV (f : Nat → Nat) (i : Nat) : Value := .int .u32 ((wd f i : Nat) : Int)
theorem oneCell_word (f : Nat → Nat) (n : Nat) : (rowArr n (wordV f)).all (·.oneCell') = true := by simp [rowArr, wordV, Value.oneCell']

/-- The cells of a block of 64 bytes. -/
def BlockIn (w : World) (b off : Nat) (f : Nat → Nat) : Prop := ∀ i, i < 64 → w.cell? ⟨b, off + i, none⟩ = some (.int .u8 ((f i : Nat) : Int))


theorem wrap32 {a : Nat} (h : a < 4294967296) : IntKind.u32.wrap (a : Int) = (a : Int) := by rw [IntKind.wrap_u32']; omega
theorem wrap8_32 {a : Nat} (h : a < 256) : IntKind.u32.wrap (a : Int) = (a : Int) := wrap32 (by omega)
theorem or32 (i a b : Nat) (hi : i ≤ 32) (ha : a < 4294967296) (hm : a % 2 ^ i = 0) (hb : b < 2 ^ i) : bits .or .u32 (a : Int) (b : Int) = ((a + b : Nat) : Int) := by
  have h32 : b < 4294967296 := Nat.lt_of_lt_of_le hb (by have := Nat.pow_le_pow_right (show 0 < 2 by omega) hi; simpa using this)
  rw [u32_or_nat a b ha h32, nat_join i a b hm hb]

/-- Two rows of 64 words: the end's, and the one that is filled. -/
structure Spr (W wr : World) (f : Nat → Nat) (k : Nat) : Prop where
  below : Below W.heap.size W wr
  out : Row wr W.heap.size 231 64 0 (wordV f)
  row : Row wr (W.heap.size + 1) 231 64 k (wordV f)

theorem Spr.drew {W wr : World} {f : Nat → Nat} {k : Nat} (h : Spr W wr f k) (q : Nat) : Spr W (wr.drewN q) f k := ⟨below_drewN h.below q, h.out, h.row⟩
theorem Spr.set {W wr : World} {f : Nat → Nat} {k : Nat} (h : Spr W wr f k) (hk : k < 64) {v : Value} (hv : v = wordV f k) : Spr W (wr.setCell ⟨W.heap.size + 1, k, none⟩ v) f (k + 1) :=
  ⟨h.below.setCell (by simp) _, h.out.other (by omega), h.row.set hk hv⟩

theorem BlockIn.below {w w' : World} {B b off : Nat} {f : Nat → Nat} (h : BlockIn w b off f) (hB : w.heap.size ≤ B) (hb : Below B w w') : BlockIn w' b off f := fun i hi => by
  rw [hb.cell (p := ⟨b, off + i, none⟩) (Nat.lt_of_lt_of_le (World.block_lt_of_cell? w _ (h i hi)) hB)]; exact h i hi

set_option maxRecDepth 100000 in
set_option maxHeartbeats 1000000 in
theorem spread_any (b off cap : Nat) (f : Nat → Nat) (w : World) (hb : BytesF f) (hc : BlockIn w b off f) :
    Calls Tryz.prog 134 #[.slice (some ⟨b, off, none⟩) 64 cap] w fun e w' => e = .returned (.agg (rowArr 64 (wordV f))) ∧ Below w.heap.size w w' := by
  have HB := Lib.hid hb
  have HC := Lib.hid hc
  clear hb hc
  go_enter Tryz.func134, Tryz.ntmps134
  go_wp2_with fail
  go_loopw [10] (fun i wr => ∃ k : Nat, k ≤ 16 ∧ i = .int .i64 k ∧ Hid (Spr w wr f k)) (fun i _ => 16 - (intOf i).toNat)
  case atStart => exact ⟨0, by omega, rfl, ⟨((Below.refl _ _).alloc (Nat.le_refl _) _).alloc (by simp) _, (Row.new' _ _ _ _ _ _ rfl rfl).alloc _, Row.new' _ _ _ _ _ _ (by simp) rfl⟩⟩
  case round =>
    obtain ⟨k, hk, rfl, HK⟩ := hrel
    by_cases hlt : k < 16
    · have hcr := HC.out.below (Nat.le_refl _) HK.out.below
      have c0 := hcr (4 * k) (by omega)
      have c1 := hcr (4 * k + 1) (by omega)
      have c2 := hcr (4 * k + 2) (by omega)
      have c3 := hcr (4 * k + 3) (by omega)
      have f0 := HB.out (4 * k)
      have f1 := HB.out (4 * k + 1)
      have f2 := HB.out (4 * k + 2)
      have f3 := HB.out (4 * k + 3)
      have hlo := HK.out.row.loose k
      obtain ⟨vk, hck⟩ := HK.out.row.has k (by omega)
      have HW : Hid (wd f k = ((f (4 * k) * 256 + f (4 * k + 1)) * 256 + f (4 * k + 2)) * 256 + f (4 * k + 3)) := by rw [wd_first f k hlt]; rfl
      clear hcr
      generalize f (4 * k) = y0 at *
      generalize f (4 * k + 1) = y1 at *
      generalize f (4 * k + 2) = y2 at *
      generalize f (4 * k + 3) = y3 at *
      have s0 : IntKind.i64.wrap (4 * (k : Int)) = 4 * (k : Int) := IntWalk.i64_in _ (by omega)
      have s1 : IntKind.i64.wrap (4 * (k : Int) + 1) = 4 * (k : Int) + 1 := IntWalk.i64_in _ (by omega)
      have s2 : IntKind.i64.wrap (4 * (k : Int) + 2) = 4 * (k : Int) + 2 := IntWalk.i64_in _ (by omega)
      have s3 : IntKind.i64.wrap (4 * (k : Int) + 3) = 4 * (k : Int) + 3 := IntWalk.i64_in _ (by omega)
      have t0 : (4 * (k : Int)).toNat = 4 * k := by omega
      have t1 : (4 * (k : Int) + 1).toNat = 4 * k + 1 := by omega
      have t2 : (4 * (k : Int) + 2).toNat = 4 * k + 2 := by omega
      have t3 : (4 * (k : Int) + 3).toNat = 4 * k + 3 := by omega
      have u1 : (0 : Int) ≤ 4 * (k : Int) + 1 ∧ 4 * (k : Int) + 1 < 64 := by omega
      have u2 : (0 : Int) ≤ 4 * (k : Int) + 2 ∧ 4 * (k : Int) + 2 < 64 := by omega
      have u3 : (0 : Int) ≤ 4 * (k : Int) + 3 ∧ 4 * (k : Int) + 3 < 64 := by omega
      have u0 : (0 : Int) ≤ 4 * (k : Int) ∧ 4 * (k : Int) < 64 := by omega
      have k64 : (k : Int) < 64 := by omega
      have w0 := wrap8_32 f0
      have w1 := wrap8_32 f1
      have w2 := wrap8_32 f2
      have w3 := wrap8_32 f3
      obtain ⟨z0, hz0⟩ : ∃ z, z = y0 * 16777216 := ⟨_, rfl⟩
      obtain ⟨z1, hz1⟩ : ∃ z, z = y1 * 65536 := ⟨_, rfl⟩
      obtain ⟨z2, hz2⟩ : ∃ z, z = y2 * 256 := ⟨_, rfl⟩
      have a0 : IntKind.u32.wrap ((y0 : Int) * 16777216) = (z0 : Int) := by rw [IntKind.wrap_u32']; omega
      have a1 : IntKind.u32.wrap ((y1 : Int) * 65536) = (z1 : Int) := by rw [IntKind.wrap_u32']; omega
      have a2 : IntKind.u32.wrap ((y2 : Int) * 256) = (z2 : Int) := by rw [IntKind.wrap_u32']; omega
      have o1 := or32 24 z0 z1 (by omega) (by omega) (by omega) (by omega)
      have o2 := or32 16 (z0 + z1) z2 (by omega) (by omega) (by omega) (by omega)
      have o3 := or32 8 (z0 + z1 + z2) y3 (by omega) (by omega) (by omega) (by omega)
      have HZ : Hid (z0 + z1 + z2 + y3 = wd f k) := by rw [HW.out]; show z0 + z1 + z2 + y3 = _; omega
      generalize z0 + z1 + z2 + y3 = z at *
      generalize z0 + z1 + z2 = z012 at *
      generalize z0 + z1 = z01 at *
      clear hz0 hz1 hz2 f0 f1 f2 f3
      go_wp2_with fail
      refine wp_region_still_tail 35 (by kernel_rfl) (by kernel_rfl) ?_
      simp only [List.take_succ_cons, List.take_zero, List.drop_succ_cons, List.drop_zero]
      repeat still_step
      refine wpStill_nil ?_
      change wpList _ _ _ _ _ wr.drew
      have HK2 : Hid (Spr w (wr.setCell ⟨w.heap.size + 1, k, none⟩ (.int .u32 (z : Int))).drew f (k + 1)) := (HK.out.drew 1).set (by omega) (by rw [HZ.out]; rfl)
      clear s0 s1 s2 s3 t0 t1 t2 t3 u0 u1 u2 u3 w0 w1 w2 w3 a0 a1 a2 o1 o2 o3 c0 c1 c2 c3
      go_wp2
      go_roundw
      case rel => exact ⟨k + 1, by omega, by go_num, HK2⟩
      case measure => simp [intOf]; omega
    · have hk16 : k = 16 := by omega
      subst hk16
      rw [show ((16 : Nat) : Int) = 16 from rfl]
      go_wp2_with fail
      go_loopw [5] (fun i wr => ∃ k : Nat, 16 ≤ k ∧ k ≤ 64 ∧ i = .int .i64 k ∧ Hid (Spr w wr f k)) (fun i _ => 64 - (intOf i).toNat)
      case atStart => exact ⟨16, by omega, by omega, rfl, HK⟩
      case round =>
        obtain ⟨k, hk1, hk2, rfl, HK⟩ := hrel
        by_cases hlt : k < 64
        · have hrow := HK.out.row
          have q15 := hrow.cell (k - 15) (by omega)
          have q2 := hrow.cell (k - 2) (by omega)
          have q16 := hrow.cell (k - 16) (by omega)
          have q7 := hrow.cell (k - 7) (by omega)
          have hlo := hrow.loose k
          obtain ⟨vk, hck⟩ := hrow.has k hlt
          clear hrow
          unfold wordV at q15 q2 q16 q7
          have HW := Lib.hid (wd_next f k hk1)
          have l15 := wd_lt HB.out (k - 15)
          have l2 := wd_lt HB.out (k - 2)
          have l16 := wd_lt HB.out (k - 16)
          have l7 := wd_lt HB.out (k - 7)
          generalize wd f (k - 15) = x at *
          generalize wd f (k - 2) = y at *
          generalize wd f (k - 16) = x16 at *
          generalize wd f (k - 7) = x7 at *
          have s1 : IntKind.i64.wrap ((k : Int) - 15) = (k : Int) - 15 := IntWalk.i64_in _ (by omega)
          have s2 : IntKind.i64.wrap ((k : Int) - 2) = (k : Int) - 2 := IntWalk.i64_in _ (by omega)
          have t1 : ((k : Int) - 15).toNat = k - 15 := by omega
          have t2 : ((k : Int) - 2).toNat = k - 2 := by omega
          have u1 : (0 : Int) ≤ (k : Int) - 15 ∧ (k : Int) - 15 < 64 := by omega
          have u2 : (0 : Int) ≤ (k : Int) - 2 ∧ (k : Int) - 2 < 64 := by omega
          go_wp2_with fail
          go_quiet (fail)
          clear s1 s2 t1 t2 u1 u2
          have HKq : Hid (Spr w (wr.drewN nq) f k) := HK.out.drew nq
          have r7 := rotr_lt x 7 l15 (by omega)
          have r18 := rotr_lt x 18 l15 (by omega)
          have r17 := rotr_lt y 17 l2 (by omega)
          have r19 := rotr_lt y 19 l2 (by omega)
          have p1 := xor32 _ _ r7 r18
          have p2 : bits .xor .u32 ((rotr x 7 ^^^ rotr x 18 : Nat) : Int) ((x : Int) / 8) = ((smallA x : Nat) : Int) := xor_shr _ _ 8 3 rfl (xor_bd r7 r18) l15
          have p3 := xor32 _ _ r17 r19
          have p4 : bits .xor .u32 ((rotr y 17 ^^^ rotr y 19 : Nat) : Int) ((y : Int) / 1024) = ((smallE y : Nat) : Int) := xor_shr _ _ 1024 10 rfl (xor_bd r17 r19) l2
          have sA := smallA_lt l15
          have sE := smallE_lt l2
          have c7 := fun w => rot_at x 7 (-7) rfl l15 (by omega) (by omega) w
          have c18 := fun w => rot_at x 18 (-18) rfl l15 (by omega) (by omega) w
          have c17 := fun w => rot_at y 17 (-17) rfl l2 (by omega) (by omega) w
          have c19 := fun w => rot_at y 19 (-19) rfl l2 (by omega) (by omega) w
          generalize rotr x 7 ^^^ rotr x 18 = x718 at *
          generalize rotr y 17 ^^^ rotr y 19 = y179 at *
          generalize rotr x 7 = x7r at *
          generalize rotr x 18 = x18r at *
          generalize rotr y 17 = y17r at *
          generalize rotr y 19 = y19r at *
          generalize smallA x = a at *
          generalize smallE y = e at *
          have C7 := Lib.hid c7
          have C18 := Lib.hid c18
          have C17 := Lib.hid c17
          have C19 := Lib.hid c19
          clear c7 c18 c17 c19
          go_wp2_with (first | (go_at_call 135; (with_reducible refine (C7.out _).mono ?_); rintro e w' ⟨rfl, rfl⟩) | (go_at_call 135; (with_reducible refine (C18.out _).mono ?_); rintro e w' ⟨rfl, rfl⟩) | (go_at_call 135; (with_reducible refine (C17.out _).mono ?_); rintro e w' ⟨rfl, rfl⟩) | (go_at_call 135; (with_reducible refine (C19.out _).mono ?_); rintro e w' ⟨rfl, rfl⟩))
          clear p1 p2 p3 p4
          have q16' : (wr.drewN nq).cell? ⟨w.heap.size + 1, k - 16, none⟩ = some (.int .u32 (x16 : Int)) := q16
          have q7' : (wr.drewN nq).cell? ⟨w.heap.size + 1, k - 7, none⟩ = some (.int .u32 (x7 : Int)) := q7
          have hck' : (wr.drewN nq).cell? ⟨w.heap.size + 1, k, none⟩ = some vk := hck
          have hlo' : (wr.drewN nq).frozen? ⟨w.heap.size + 1, k, none⟩ = false := hlo
          clear q16 q7 hck hlo q15 q2
          generalize wr.drewN nq = wq at *
          have s1 : IntKind.i64.wrap ((k : Int) - 16) = (k : Int) - 16 := IntWalk.i64_in _ (by omega)
          have s2 : IntKind.i64.wrap ((k : Int) - 7) = (k : Int) - 7 := IntWalk.i64_in _ (by omega)
          have t1 : ((k : Int) - 16).toNat = k - 16 := by omega
          have t2 : ((k : Int) - 7).toNat = k - 7 := by omega
          have u1 : (k : Int) - 16 < 64 := by omega
          have u2 : (k : Int) - 7 < 64 := by omega
          have v1 : (16 : Int) ≤ (k : Int) := by omega
          have v2 : (7 : Int) ≤ (k : Int) := by omega
          have v3 : (0 : Int) ≤ (k : Int) - 16 := by omega
          have v4 : (0 : Int) ≤ (k : Int) - 7 := by omega
          have k64 : (k : Int) < 64 := by omega
          obtain ⟨m1, hm1⟩ : ∃ m, m = (x16 + a) % 4294967296 := ⟨_, rfl⟩
          obtain ⟨m2, hm2⟩ : ∃ m, m = (m1 + x7) % 4294967296 := ⟨_, rfl⟩
          obtain ⟨m3, hm3⟩ : ∃ m, m = (m2 + e) % 4294967296 := ⟨_, rfl⟩
          have g1 : IntKind.u32.wrap ((x16 : Int) + (a : Int)) = (m1 : Int) := by rw [IntKind.wrap_u32']; omega
          have g2 : IntKind.u32.wrap ((m1 : Int) + (x7 : Int)) = (m2 : Int) := by rw [IntKind.wrap_u32']; omega
          have g3 : IntKind.u32.wrap ((m2 : Int) + (e : Int)) = (m3 : Int) := by rw [IntKind.wrap_u32']; omega
          have HM : Hid (m3 = wd f k) := by rw [HW.out]; show m3 = _; omega
          have HKs : Hid (Spr w (wq.setCell ⟨w.heap.size + 1, k, none⟩ (.int .u32 (m3 : Int))).drew f (k + 1)) := (HKq.out.drew 1).set hlt (by rw [HM.out]; rfl)
          clear hm1 hm2 hm3
          refine wp_region_still_tail 15 (by kernel_rfl) (by kernel_rfl) ?_
          simp only [List.take_succ_cons, List.take_zero, List.drop_succ_cons, List.drop_zero]
          repeat still_step
          refine wpStill_nil ?_
          change wpList _ _ _ _ _ wq.drew
          clear s1 s2 t1 t2 u1 u2 v1 v2 v3 v4 g1 g2 g3
          go_wp2
          go_roundw
          case rel => exact ⟨k + 1, by omega, by omega, by go_num, HKs⟩
          case measure => simp [intOf]; omega
        · have hk64 : k = 64 := by omega
          subst hk64
          have hwh := HK.out.row.whole
          obtain ⟨old, ho1, ho2, _⟩ := HK.out.out
          have HX : Hid ((wr.setRow w.heap.size (rowArr 64 (wordV f))).heap[w.heap.size]? = some (.cells (rowArr 64 (wordV f)) 231 (0, 0))) := setRow_heap _ _ _ _ _ _ ho1
          go_wp2_with (first | (refine wpList_load_row rfl 231 _ rfl (w.heap.size + 1) rfl 231 (rowArr 64 (wordV f)) (0, 0) _ hwh Tryz.underlying231 rfl (by rw [rowArr_size]; kernel_rfl) ?_) | (refine wpList_store_row rfl 231 _ _ rfl w.heap.size (rowArr 64 (wordV f)) rfl rfl 231 old ho1 (by rw [rowArr_size]; kernel_rfl) (by rw [rowArr_size]; exact ho2) (oneCell_word f 64) ?_))
          exact bodyPost_ret (v := .agg (rowArr 64 (wordV f))) (results_cell_row rfl _ _ w.heap.size 231 (rowArr 64 (wordV f)) (0, 0) _ rfl HX.out Tryz.underlying231 rfl (by rw [rowArr_size]; kernel_rfl)) rfl ⟨rfl, below_setRow HK.out.below (Nat.le_refl _) _⟩

end Go.Proofs.YtfgaohilpbocbaaGreatDoor.Sha
end
