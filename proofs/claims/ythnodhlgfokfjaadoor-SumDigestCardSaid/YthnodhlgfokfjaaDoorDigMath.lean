/-
  SHA-256 in numbers: rotations, the two mixing functions, the words of a block, the rounds, the blocks of a padded message, and the bytes of the end.
-/
import Derived.Test.YthnodhlgfokfjaaDoorCrcMath
import Derived.Laws.BitsAllLaws
namespace Go.Proofs.YthnodhlgfokfjaaDoor
open Go

def rotr (x n : Nat) : Nat := x % 2 ^ n * 2 ^ (32 - n) + x / 2 ^ n

theorem pow_split (n : Nat) (hn : n ≤ 32) : 2 ^ n * 2 ^ (32 - n) = 4294967296 := by
  rw [← Nat.pow_add, show n + (32 - n) = 32 by omega]

theorem div_lt32 (x n : Nat) (hx : x < 4294967296) (hn : n ≤ 32) : x / 2 ^ n < 2 ^ (32 - n) :=
  Nat.div_lt_of_lt_mul (by rw [pow_split n hn]; exact hx)

theorem rotr_lt (x n : Nat) (hx : x < 4294967296) (hn : n ≤ 32) : rotr x n < 4294967296 := by
  unfold rotr
  have h1 := div_lt32 x n hx hn
  have h2 : x % 2 ^ n + 1 ≤ 2 ^ n := Nat.mod_lt _ (Nat.two_pow_pos n)
  have h3 := Nat.mul_le_mul_right (2 ^ (32 - n)) h2
  rw [pow_split n hn, Nat.add_mul, Nat.one_mul] at h3
  omega

theorem rotr_left (x n : Nat) (hx : x < 4294967296) (hn : n ≤ 32) : (x * 2 ^ (32 - n) % 4294967296) ||| (x / 2 ^ n) = rotr x n := by
  have h1 := div_lt32 x n hx hn
  have e : x * 2 ^ (32 - n) % 4294967296 = x % 2 ^ n * 2 ^ (32 - n) := by
    rw [← pow_split n hn, Nat.mul_mod_mul_right]
  rw [e, nat_join (32 - n) _ _ (by simp) h1]
  rfl

theorem rotr_wide (x n : Nat) (hx : x < 4294967296) (hn : n ≤ 32) : (x / 2 ^ n ||| x * 2 ^ (32 - n)) % 4294967296 = rotr x n := by
  have h1 := div_lt32 x n hx hn
  rw [Nat.or_comm, nat_join (32 - n) _ _ (by simp) h1]
  have h2 := Nat.div_add_mod x (2 ^ n)
  have h3 : x * 2 ^ (32 - n) = x / 2 ^ n * 4294967296 + x % 2 ^ n * 2 ^ (32 - n) := by
    conv => lhs; rw [← h2]
    rw [Nat.add_mul, Nat.mul_comm (2 ^ n), Nat.mul_assoc, pow_split n hn]
  have h4 := rotr_lt x n hx hn
  unfold rotr at h4 ⊢
  rw [h3]
  omega

def bigA (x : Nat) : Nat := rotr x 2 ^^^ rotr x 13 ^^^ rotr x 22
def bigE (x : Nat) : Nat := rotr x 6 ^^^ rotr x 11 ^^^ rotr x 25
def smallA (x : Nat) : Nat := rotr x 7 ^^^ rotr x 18 ^^^ x / 8
def smallE (x : Nat) : Nat := rotr x 17 ^^^ rotr x 19 ^^^ x / 1024

theorem xor_bd {a b : Nat} (ha : a < 4294967296) (hb : b < 4294967296) : a ^^^ b < 4294967296 := by
  have : a ^^^ b < 2 ^ 32 := Nat.xor_lt_two_pow (by omega) (by omega)
  simpa using this
theorem and_bd {a : Nat} (b : Nat) (ha : a < 4294967296) : a &&& b < 4294967296 := Nat.lt_of_le_of_lt Nat.and_le_left ha
theorem or_bd {a b : Nat} (ha : a < 4294967296) (hb : b < 4294967296) : a ||| b < 4294967296 := by
  have : a ||| b < 2 ^ 32 := Nat.or_lt_two_pow (by omega) (by omega)
  simpa using this

theorem bigA_lt {x : Nat} (h : x < 4294967296) : bigA x < 4294967296 := xor_bd (xor_bd (rotr_lt x 2 h (by omega)) (rotr_lt x 13 h (by omega))) (rotr_lt x 22 h (by omega))
theorem bigE_lt {x : Nat} (h : x < 4294967296) : bigE x < 4294967296 := xor_bd (xor_bd (rotr_lt x 6 h (by omega)) (rotr_lt x 11 h (by omega))) (rotr_lt x 25 h (by omega))
theorem smallA_lt {x : Nat} (h : x < 4294967296) : smallA x < 4294967296 := xor_bd (xor_bd (rotr_lt x 7 h (by omega)) (rotr_lt x 18 h (by omega))) (by omega)
theorem smallE_lt {x : Nat} (h : x < 4294967296) : smallE x < 4294967296 := xor_bd (xor_bd (rotr_lt x 17 h (by omega)) (rotr_lt x 19 h (by omega))) (by omega)

def chN (t u v : Nat) : Nat := t &&& u ^^^ (4294967295 - t) &&& v
def majN (p q r : Nat) : Nat := p &&& q ^^^ p &&& r ^^^ q &&& r

theorem not_eq (t : Nat) (h : t < 4294967296) : 4294967295 ^^^ t = 4294967295 - t := by
  apply Nat.eq_of_testBit_eq
  intro i
  have e : 4294967295 - t = 2 ^ 32 - (t + 1) := by omega
  rw [e, Nat.testBit_two_pow_sub_succ (by omega), Nat.testBit_xor, show (4294967295 : Nat) = 2 ^ 32 - 1 from rfl, Nat.testBit_two_pow_sub_one]
  by_cases hi : i < 32
  · simp [hi]
  · have : t.testBit i = false := Nat.testBit_lt_two_pow (Nat.lt_of_lt_of_le h (by have := Nat.pow_le_pow_right (show 0 < 2 by omega) (show 32 ≤ i by omega); simpa using this))
    simp [hi, this]

theorem ch_or (t u v : Nat) (h : t < 4294967296) : (t &&& u ||| (4294967295 ^^^ t) &&& v) = chN t u v := by
  unfold chN
  rw [← not_eq t h]
  apply Nat.eq_of_testBit_eq
  intro i
  rw [Nat.testBit_or, Nat.testBit_xor, Nat.testBit_and, Nat.testBit_and, Nat.testBit_xor, show (4294967295 : Nat) = 2 ^ 32 - 1 from rfl, Nat.testBit_two_pow_sub_one]
  by_cases hi : i < 32
  · simp only [hi, decide_true]
    cases t.testBit i <;> cases u.testBit i <;> cases v.testBit i <;> rfl
  · have : t.testBit i = false := Nat.testBit_lt_two_pow (Nat.lt_of_lt_of_le h (by have := Nat.pow_le_pow_right (show 0 < 2 by omega) (show 32 ≤ i by omega); simpa using this))
    simp [hi, this]

theorem maj_or (p q r : Nat) : (p &&& q ||| p &&& r ||| q &&& r) = majN p q r := by
  unfold majN
  apply Nat.eq_of_testBit_eq
  intro i
  simp only [Nat.testBit_or, Nat.testBit_xor, Nat.testBit_and]
  cases p.testBit i <;> cases q.testBit i <;> cases r.testBit i <;> rfl

theorem chN_lt {t u v : Nat} (ht : t < 4294967296) (hv : v < 4294967296) : chN t u v < 4294967296 := xor_bd (and_bd _ ht) (by rw [Nat.and_comm]; exact and_bd _ hv)
theorem majN_lt {p q r : Nat} (hp : p < 4294967296) (hq : q < 4294967296) : majN p q r < 4294967296 := xor_bd (xor_bd (and_bd _ hp) (and_bd _ hp)) (and_bd _ hq)

/-- The word of four bytes, the greatest first. -/
def be32 (b : Nat → Nat) (i : Nat) : Nat := ((b (4 * i) * 256 + b (4 * i + 1)) * 256 + b (4 * i + 2)) * 256 + b (4 * i + 3)

/-- The words of a block of bytes. -/
def wd (b : Nat → Nat) (i : Nat) : Nat :=
  if h : i < 16 then be32 b i else (wd b (i - 16) + smallA (wd b (i - 15)) + wd b (i - 7) + smallE (wd b (i - 2))) % 4294967296
termination_by i

def BytesF (b : Nat → Nat) : Prop := ∀ i, b i < 256

theorem be32_lt {b : Nat → Nat} (h : BytesF b) (i : Nat) : be32 b i < 4294967296 := by
  unfold be32
  have h0 := h (4 * i); have h1 := h (4 * i + 1); have h2 := h (4 * i + 2); have h3 := h (4 * i + 3)
  omega

theorem wd_first (b : Nat → Nat) (i : Nat) (h : i < 16) : wd b i = be32 b i := by rw [wd, dif_pos h]
theorem wd_next (b : Nat → Nat) (i : Nat) (h : 16 ≤ i) : wd b i = (wd b (i - 16) + smallA (wd b (i - 15)) + wd b (i - 7) + smallE (wd b (i - 2))) % 4294967296 := by
  conv => lhs; rw [wd, dif_neg (by omega)]
theorem wd_lt {b : Nat → Nat} (h : BytesF b) (i : Nat) : wd b i < 4294967296 := by
  rw [wd]
  split
  · exact be32_lt h i
  · exact Nat.mod_lt _ (by omega)

def kL : List Nat := [1116352408, 1899447441, 3049323471, 3921009573, 961987163, 1508970993, 2453635748, 2870763221, 3624381080, 310598401, 607225278, 1426881987, 1925078388, 2162078206, 2614888103, 3248222580, 3835390401, 4022224774, 264347078, 604807628, 770255983, 1249150122, 1555081692, 1996064986, 2554220882, 2821834349, 2952996808, 3210313671, 3336571891, 3584528711, 113926993, 338241895, 666307205, 773529912, 1294757372, 1396182291, 1695183700, 1986661051, 2177026350, 2456956037, 2730485921, 2820302411, 3259730800, 3345764771, 3516065817, 3600352804, 4094571909, 275423344, 430227734, 506948616, 659060556, 883997877, 958139571, 1322822218, 1537002063, 1747873779, 1955562222, 2024104815, 2227730452, 2361852424, 2428436474, 2756734187, 3204031479, 3329325298]
def kN (i : Nat) : Nat := kL.getD i 0

theorem kN_lt : ∀ i, i < 64 → kN i < 4294967296 := by decide

/-- The state: eight words. -/
structure S8 where
  p : Nat
  q : Nat
  r : Nat
  s : Nat
  t : Nat
  u : Nat
  v : Nat
  w : Nat

structure S8.Ok (x : S8) : Prop where
  p : x.p < 4294967296
  q : x.q < 4294967296
  r : x.r < 4294967296
  s : x.s < 4294967296
  t : x.t < 4294967296
  u : x.u < 4294967296
  v : x.v < 4294967296
  w : x.w < 4294967296

def one8 (x : S8) (k c : Nat) : Nat := x.w + bigE x.t + chN x.t x.u x.v + k + c
def two8 (x : S8) : Nat := bigA x.p + majN x.p x.q x.r

def rnd (x : S8) (k c : Nat) : S8 := ⟨(one8 x k c + two8 x) % 4294967296, x.p, x.q, x.r, (x.s + one8 x k c) % 4294967296, x.t, x.u, x.v⟩

theorem rnd_ok {x : S8} (h : x.Ok) (k c : Nat) : (rnd x k c).Ok := ⟨Nat.mod_lt _ (by omega), h.p, h.q, h.r, Nat.mod_lt _ (by omega), h.t, h.u, h.v⟩

def rnds (x : S8) (b : Nat → Nat) : Nat → S8
  | 0 => x
  | n + 1 => rnd (rnds x b n) (kN n) (wd b n)

theorem rnds_ok {x : S8} (h : x.Ok) (b : Nat → Nat) (n : Nat) : (rnds x b n).Ok := by
  induction n with
  | zero => exact h
  | succ n ih => exact rnd_ok ih _ _

def add8 (x y : S8) : S8 := ⟨(x.p + y.p) % 4294967296, (x.q + y.q) % 4294967296, (x.r + y.r) % 4294967296, (x.s + y.s) % 4294967296, (x.t + y.t) % 4294967296, (x.u + y.u) % 4294967296, (x.v + y.v) % 4294967296, (x.w + y.w) % 4294967296⟩

theorem add8_ok (x y : S8) : (add8 x y).Ok := ⟨Nat.mod_lt _ (by omega), Nat.mod_lt _ (by omega), Nat.mod_lt _ (by omega), Nat.mod_lt _ (by omega), Nat.mod_lt _ (by omega), Nat.mod_lt _ (by omega), Nat.mod_lt _ (by omega), Nat.mod_lt _ (by omega)⟩

def mixN (x : S8) (b : Nat → Nat) : S8 := add8 x (rnds x b 64)

def start8 : S8 := ⟨1779033703, 3144134277, 1013904242, 2773480762, 1359893119, 2600822924, 528734635, 1541459225⟩
theorem start_ok : start8.Ok := ⟨by decide, by decide, by decide, by decide, by decide, by decide, by decide, by decide⟩

/-- The state behind k blocks of a message. -/
def comp (l : List Nat) : Nat → S8
  | 0 => start8
  | k + 1 => mixN (comp l k) (fun j => l.getD (64 * k + j) 0)

theorem comp_ok (l : List Nat) (k : Nat) : (comp l k).Ok := by
  cases k with
  | zero => exact start_ok
  | succ k => exact add8_ok _ _

def S8.get (x : S8) (i : Nat) : Nat := [x.p, x.q, x.r, x.s, x.t, x.u, x.v, x.w].getD i 0

/-- The bytes of a state. -/
def spellN (x : S8) : List Nat := (List.range 32).map fun i => x.get (i / 4) / 2 ^ (24 - 8 * (i % 4)) % 256

/-- A number's eight bytes, the greatest first. -/
def be64 (n : Nat) : List Nat := (List.range 8).map fun i => n / 2 ^ (8 * (7 - i)) % 256

/-- How many noughts a message is filled with. -/
def gap (n : Nat) : Nat := (119 - n % 64) % 64

/-- The padded message. -/
def padN (l : List Nat) : List Nat := l ++ 128 :: (List.replicate (gap l.length) 0 ++ be64 (l.length * 8))

def digestN (l : List Nat) : List Nat := spellN (comp (padN l) ((padN l).length / 64))

theorem padN_length (l : List Nat) : (padN l).length = l.length + 9 + gap l.length := by
  simp [padN, be64]; omega

theorem padN_mod (l : List Nat) : (padN l).length % 64 = 0 := by
  rw [padN_length]; unfold gap; omega

theorem padN_byte {l : List Nat} (h : IsByte l) : IsByte (padN l) := by
  intro c hc
  simp only [padN, be64, List.mem_append, List.mem_cons, List.mem_replicate, List.mem_map] at hc
  rcases hc with h1 | h1 | ⟨_, h1⟩ | ⟨i, _, h1⟩
  · exact h c h1
  · omega
  · omega
  · rw [← h1]; exact Nat.mod_lt _ (by omega)

theorem getD_byte {l : List Nat} (h : IsByte l) (k : Nat) : BytesF (fun j => l.getD (k + j) 0) := by
  intro j
  show l.getD (k + j) 0 < 256
  by_cases hj : k + j < l.length
  · simp only [List.getD, List.getElem?_eq_getElem hj, Option.getD_some]; exact h _ (List.getElem_mem hj)
  · simp only [List.getD, List.getElem?_eq_none (by omega : l.length ≤ k + j), Option.getD_none]; omega

end Go.Proofs.YthnodhlgfokfjaaDoor
