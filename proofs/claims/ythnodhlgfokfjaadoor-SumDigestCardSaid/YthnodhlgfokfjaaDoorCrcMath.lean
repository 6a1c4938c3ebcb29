/-
  The CRC in numbers: one halving, eight of them for a byte, a fold for a list; that halvings are linear (exclusive or), and what follows for tables and for windows that roll.
-/
namespace Go.Proofs.YthnodhlgfokfjaaDoor

def stp (x : Nat) : Nat := x / 2 ^^^ (if x % 2 = 1 then 3988292384 else 0)

theorem xor_swap (a b c d : Nat) : (a ^^^ b) ^^^ (c ^^^ d) = (a ^^^ c) ^^^ (b ^^^ d) := by ac_rfl

theorem stp_xor (x y : Nat) : stp (x ^^^ y) = stp x ^^^ stp y := by
  unfold stp
  rw [Nat.xor_div_two, xor_swap]
  congr 1
  have h := @Nat.xor_mod_two_eq_one x y
  by_cases hx : x % 2 = 1 <;> by_cases hy : y % 2 = 1 <;> simp [hx, hy, h, Nat.xor_self]

theorem stp_even (y : Nat) : stp (2 * y) = y := by
  unfold stp
  rw [if_neg (by omega)]
  simp

theorem stp_lt (x : Nat) (h : x < 4294967296) : stp x < 4294967296 := by
  unfold stp
  have : x / 2 ^^^ (if x % 2 = 1 then 3988292384 else 0) < 2 ^ 32 := Nat.xor_lt_two_pow (by omega) (by split <;> omega)
  simpa using this

def stps : Nat → Nat → Nat
  | 0, x => x
  | k + 1, x => stp (stps k x)

theorem stps_xor (k x y : Nat) : stps k (x ^^^ y) = stps k x ^^^ stps k y := by
  induction k with
  | zero => rfl
  | succ k ih => simp only [stps, ih, stp_xor]

theorem stps_lt (k x : Nat) (h : x < 4294967296) : stps k x < 4294967296 := by
  induction k with
  | zero => exact h
  | succ k ih => exact stp_lt _ ih

theorem stps_add (k m x : Nat) : stps (k + m) x = stps k (stps m x) := by
  induction k with
  | zero => simp [stps]
  | succ k ih => rw [Nat.add_right_comm]; simp only [stps, ih]

def four (k : Nat) : Nat := [0, 498536548, 997073096, 651767980, 1994146192, 1802195444, 1303535960, 1342533948, 3988292384, 4027552580, 3604390888, 3412177804, 2607071920, 2262029012, 2685067896, 3183342108].getD k 0

theorem four_eq : ∀ k, k < 16 → stps 4 k = four k := by decide

theorem four_lt (k : Nat) (h : k < 16) : four k < 4294967296 := by
  rw [← four_eq k h]; exact stps_lt _ _ (by omega)

theorem split16 (x : Nat) : x = 2 * (2 * (2 * (2 * (x / 16)))) ^^^ x % 16 := by
  have h := Nat.two_pow_add_eq_or_of_lt (i := 4) (b := x % 16) (by omega) (x / 16)
  apply Nat.eq_of_testBit_eq
  intro i
  have e : 2 * (2 * (2 * (2 * (x / 16)))) = 2 ^ 4 * (x / 16) := by omega
  have hx : x = 2 ^ 4 * (x / 16) ||| x % 16 := by rw [← h]; omega
  have hm : x % 16 = x % 2 ^ 4 := rfl
  rw [e, Nat.testBit_xor, Nat.testBit_two_pow_mul, hm, Nat.testBit_mod_two_pow]
  conv => lhs; rw [hx, Nat.testBit_or, Nat.testBit_two_pow_mul, hm, Nat.testBit_mod_two_pow]
  by_cases h4 : i < 4
  · simp [h4, show ¬ 4 ≤ i by omega]
  · simp [h4]

theorem half_byte (x : Nat) : x / 16 ^^^ four (x % 16) = stps 4 x := by
  conv => rhs; rw [split16 x, stps_xor, four_eq _ (Nat.mod_lt _ (by omega))]
  simp [stps, stp_even]

/-- One more byte, into a CRC that isn't turned at last yet. -/
def feedN (s c : Nat) : Nat := stps 8 (s ^^^ c)

theorem byte_lt (s c : Nat) (hs : s < 4294967296) (hc : c < 256) : s ^^^ c < 4294967296 := by
  have : s ^^^ c < 2 ^ 32 := Nat.xor_lt_two_pow (by omega) (by omega)
  simpa using this

theorem feedN_lt (s c : Nat) (hs : s < 4294967296) (hc : c < 256) : feedN s c < 4294967296 := stps_lt _ _ (byte_lt s c hs hc)

theorem feed_eq (x : Nat) : (x / 16 ^^^ four (x % 16)) / 16 ^^^ four ((x / 16 ^^^ four (x % 16)) % 16) = stps 8 x := by
  rw [half_byte, half_byte, ← stps_add]

/-- A list of bytes, taken in from a state on. -/
def feedAll (s : Nat) (l : List Nat) : Nat := l.foldl feedN s

theorem feedAll_snoc (s : Nat) (l : List Nat) (c : Nat) : feedAll s (l ++ [c]) = feedN (feedAll s l) c := by simp [feedAll]

def IsByte (l : List Nat) : Prop := ∀ c ∈ l, c < 256

theorem feedAll_lt (l : List Nat) : ∀ (s : Nat), s < 4294967296 → IsByte l → feedAll s l < 4294967296 := by
  induction l with
  | nil => intro s hs _; exact hs
  | cons c l ih => intro s hs hl; exact ih _ (feedN_lt s c hs (hl c (by simp))) fun x hx => hl x (by simp [hx])

def crcN (l : List Nat) : Nat := feedAll 4294967295 l ^^^ 4294967295

theorem crc_known : crcN [49, 50, 51, 52, 53, 54, 55, 56, 57] = 3421780262 := by decide +kernel

theorem turn_lt (x : Nat) (h : x < 4294967296) : x ^^^ 4294967295 < 4294967296 := by
  have : x ^^^ 4294967295 < 2 ^ 32 := Nat.xor_lt_two_pow (by omega) (by omega)
  simpa using this

/-- The document's way: bit by bit, the byte's bits taken in one by one. -/
def bitStep (r b k : Nat) : Nat := r / 2 ^^^ (if (r % 2 ^^^ b / 2 ^ k % 2) = 1 then 3988292384 else 0)

theorem bit_step (r b k : Nat) : stp (r ^^^ b / 2 ^ k) = bitStep r b k ^^^ b / 2 ^ (k + 1) := by
  unfold stp bitStep
  have e : b / 2 ^ (k + 1) = b / 2 ^ k / 2 := by rw [Nat.pow_succ, Nat.div_div_eq_div_mul]
  rw [Nat.xor_div_two, e]
  have h := @Nat.xor_mod_two_eq_one r (b / 2 ^ k)
  have h2 : (r % 2 ^^^ b / 2 ^ k % 2) = (r ^^^ b / 2 ^ k) % 2 := by
    have := @Nat.xor_mod_two_pow r (b / 2 ^ k) 1
    simpa using this.symm
  rw [h2]
  ac_rfl

def bitSteps (r b : Nat) : Nat → Nat
  | 0 => r
  | k + 1 => bitStep (bitSteps r b k) b k

theorem bit_steps (r b k : Nat) : stps k (r ^^^ b) = bitSteps r b k ^^^ b / 2 ^ k := by
  induction k with
  | zero => simp [stps, bitSteps]
  | succ k ih => simp only [stps, bitSteps, ih, bit_step]

theorem bit_steps8 (r b : Nat) (h : b < 256) : bitSteps r b 8 = feedN r b := by
  have := bit_steps r b 8
  rw [show b / 2 ^ 8 = 0 by omega, Nat.xor_zero] at this
  exact this.symm

theorem bitStep_lt (r b k : Nat) (h : r < 4294967296) : bitStep r b k < 4294967296 := by
  unfold bitStep
  have : r / 2 ^^^ (if (r % 2 ^^^ b / 2 ^ k % 2) = 1 then 3988292384 else 0) < 2 ^ 32 := Nat.xor_lt_two_pow (by omega) (by split <;> omega)
  simpa using this

theorem bitSteps_lt (r b k : Nat) (h : r < 4294967296) : bitSteps r b k < 4294967296 := by
  induction k with
  | zero => exact h
  | succ k ih => exact bitStep_lt _ _ _ ih

/-! Windows that roll. -/

def zeros : Nat → Nat → Nat
  | 0, x => x
  | n + 1, x => feedN (zeros n x) 0

theorem zeros_eq (n x : Nat) : zeros n x = stps (8 * n) x := by
  induction n with
  | zero => rfl
  | succ n ih => rw [zeros, feedN, Nat.xor_zero, ih, ← stps_add]; congr 1; omega

def leftN (c n : Nat) : Nat := zeros n (feedN 4294967295 c ^^^ 4294967295)

theorem feedN_xor (s d c : Nat) : feedN (s ^^^ d) c = feedN s c ^^^ stps 8 d := by
  unfold feedN
  rw [← stps_xor]
  congr 1
  ac_rfl

theorem feedAll_xor (l : List Nat) : ∀ (s d : Nat), feedAll (s ^^^ d) l = feedAll s l ^^^ stps (8 * l.length) d := by
  induction l with
  | nil => intro s d; rfl
  | cons c l ih =>
    intro s d
    show feedAll (feedN (s ^^^ d) c) l = feedAll (feedN s c) l ^^^ _
    rw [feedN_xor, ih, ← stps_add]
    congr 2

theorem xor_back (a b : Nat) : a ^^^ (b ^^^ a) = b := by
  rw [Nat.xor_comm b a, ← Nat.xor_assoc, Nat.xor_self, Nat.zero_xor]

theorem xor_back' (a b : Nat) : a ^^^ b ^^^ b = a := by
  rw [Nat.xor_assoc, Nat.xor_self, Nat.xor_zero]

theorem roll (o i : Nat) (l : List Nat) : feedN (crcN (o :: l) ^^^ 4294967295) i ^^^ 4294967295 ^^^ leftN o (l.length + 1) = crcN (l ++ [i]) := by
  unfold crcN leftN
  rw [xor_back', ← feedAll_snoc, zeros_eq]
  have h : feedAll 4294967295 (o :: l ++ [i]) = feedAll (4294967295 ^^^ (feedN 4294967295 o ^^^ 4294967295)) (l ++ [i]) := by rw [xor_back]; rfl
  rw [h, feedAll_xor]
  have e : (l ++ [i]).length = l.length + 1 := by simp
  rw [e]
  generalize stps _ _ = A
  generalize feedAll _ _ = B
  rw [Nat.xor_assoc B, Nat.xor_comm A, Nat.xor_assoc, Nat.xor_assoc, Nat.xor_self, Nat.xor_zero]

theorem leftN_eq (c n : Nat) : leftN c n = leftN 0 n ^^^ stps (8 * n + 8) c := by
  unfold leftN
  rw [zeros_eq, zeros_eq, stps_add]
  have h : feedN 4294967295 c = feedN 4294967295 0 ^^^ stps 8 c := by
    unfold feedN
    rw [Nat.xor_zero, stps_xor]
  rw [h, stps_xor, stps_xor, stps_xor]
  ac_rfl

theorem leftN_sum (a b n : Nat) : leftN a n ^^^ leftN b n ^^^ leftN 0 n = leftN (a ^^^ b) n := by
  rw [leftN_eq a, leftN_eq b, leftN_eq (a ^^^ b), stps_xor]
  generalize leftN 0 n = K
  generalize stps (8 * n + 8) a = A
  generalize stps (8 * n + 8) b = B
  rw [show K ^^^ A ^^^ (K ^^^ B) ^^^ K = (K ^^^ K) ^^^ (K ^^^ (A ^^^ B)) by ac_rfl, Nat.xor_self, Nat.zero_xor]

theorem zeros_lt (n x : Nat) (h : x < 4294967296) : zeros n x < 4294967296 := by
  rw [zeros_eq]; exact stps_lt _ _ h

theorem leftN_lt (c n : Nat) (h : c < 256) : leftN c n < 4294967296 := zeros_lt _ _ (turn_lt _ (feedN_lt _ _ (by omega) h))

end Go.Proofs.YthnodhlgfokfjaaDoor
