/-
  Plain mathematics of the field of 256 numbers: products by doubling, by long division, sums, powers. Nothing of the program's dump is named here.
-/
import Derived.KernelRfl
namespace Go.Proofs.Ytdfgdpgffblbpaa
set_option linter.unusedVariables false

/-- A number times x. -/
def dbl (a : Nat) : Nat := if 128 ≤ a then (a * 2 % 256) ^^^ 29 else a * 2
/-- A number times x, so many times. -/
def dblN : Nat → Nat → Nat
  | 0, a => a
  | n + 1, a => dbl (dblN n a)
/-- v where the bit is 1. -/
def sel (b i v : Nat) : Nat := if b.testBit i then v else 0
def mulTo : Nat → Nat → Nat → Nat
  | 0, _, _ => 0
  | n + 1, a, b => mulTo n a b ^^^ sel b n (dblN n a)
/-- The product. -/
def mulN (a b : Nat) : Nat := mulTo 8 a b

theorem xor_lt {a b : Nat} (ha : a < 256) (hb : b < 256) : a ^^^ b < 256 := by
  have : a ^^^ b < 2 ^ 8 := Nat.xor_lt_two_pow (by omega) (by omega)
  simpa using this

theorem xor_swap (a b c d : Nat) : (a ^^^ b) ^^^ (c ^^^ d) = (a ^^^ c) ^^^ (b ^^^ d) := by
  rw [Nat.xor_assoc, Nat.xor_assoc, ← Nat.xor_assoc b c d, Nat.xor_comm b c, Nat.xor_assoc c b d]

theorem dbl_lt {a : Nat} (ha : a < 256) : dbl a < 256 := by
  unfold dbl
  split
  · exact xor_lt (by omega) (by omega)
  · omega
theorem dblN_lt (n : Nat) {a : Nat} (ha : a < 256) : dblN n a < 256 := by
  induction n with
  | zero => exact ha
  | succ n ih => exact dbl_lt ih
theorem sel_lt {b i v : Nat} (hv : v < 256) : sel b i v < 256 := by unfold sel; split <;> omega
theorem mulTo_lt (n : Nat) {a : Nat} (b : Nat) (ha : a < 256) : mulTo n a b < 256 := by
  induction n with
  | zero => exact Nat.zero_lt_succ _
  | succ n ih => exact xor_lt ih (sel_lt (dblN_lt n ha))
theorem mulN_lt {a : Nat} (b : Nat) (ha : a < 256) : mulN a b < 256 := mulTo_lt 8 b ha

/-- What holds of 0, of each bit and of sums holds of each number. -/
theorem bit_induct (P : Nat → Prop) (h0 : P 0) (hb : ∀ i, i < 8 → P (2 ^ i)) (hx : ∀ a b, a < 256 → b < 256 → P a → P b → P (a ^^^ b)) : ∀ a, a < 256 → P a := by
  have key : ∀ n, n ≤ 8 → ∀ a, a < 2 ^ n → P a := by
    intro n
    induction n with
    | zero => intro _ a ha; obtain rfl : a = 0 := by omega
              exact h0
    | succ n ih =>
      intro hn a ha
      have hp : 2 ^ (n + 1) = 2 ^ n + 2 ^ n := by rw [Nat.pow_succ]; omega
      have h256 : 2 ^ n + 2 ^ n ≤ 256 := by rw [← hp]; exact Nat.le_trans (Nat.pow_le_pow_right (by omega) hn) (by decide)
      by_cases hl : a < 2 ^ n
      · exact ih (by omega) a hl
      · have e : a = 2 ^ n ^^^ (a - 2 ^ n) := by
          have hs : a - 2 ^ n < 2 ^ n := by omega
          have h1 : 2 ^ n + (a - 2 ^ n) = 2 ^ n ||| (a - 2 ^ n) := by
            have := Nat.two_pow_add_eq_or_of_lt hs 1
            simpa using this
          have h2 : 2 ^ n ^^^ (a - 2 ^ n) = 2 ^ n ||| (a - 2 ^ n) := by
            apply Nat.eq_of_testBit_eq
            intro j
            rw [Nat.testBit_xor, Nat.testBit_or, Nat.testBit_two_pow]
            by_cases hj : n = j
            · subst hj
              rw [Nat.testBit_lt_two_pow hs]; simp
            · simp [hj]
          omega
        rw [e]
        exact hx _ _ (by omega) (by omega) (hb n (by omega)) (ih (by omega) _ (by omega))
  exact key 8 (Nat.le_refl _)

theorem mod_xor8 (a b : Nat) : (a ^^^ b) % 256 = a % 256 ^^^ b % 256 := by
  have := Nat.xor_mod_two_pow (a := a) (b := b) (n := 8)
  simpa using this
theorem mul_xor2 (a b : Nat) : (a ^^^ b) * 2 = a * 2 ^^^ b * 2 := by
  have := Nat.shiftLeft_xor_distrib (a := a) (b := b) (i := 1)
  simpa [Nat.shiftLeft_eq] using this
theorem top_bit {a : Nat} (ha : a < 256) : a.testBit 7 = decide (128 ≤ a) := by
  rw [Nat.testBit_eq_decide_div_mod_eq]
  by_cases h : 128 ≤ a
  · have : a / 2 ^ 7 = 1 := by omega
    simp [h, this]
  · have : a / 2 ^ 7 = 0 := by omega
    simp [h, this]
theorem dbl_eq {a : Nat} (ha : a < 256) : dbl a = a * 2 % 256 ^^^ sel a 7 29 := by
  unfold dbl sel
  rw [top_bit ha]
  by_cases h : 128 ≤ a
  · simp [h]
  · simp [h]; omega
theorem sel_xor (b c i v : Nat) : sel (b ^^^ c) i v = sel b i v ^^^ sel c i v := by
  unfold sel
  rw [Nat.testBit_xor]
  cases b.testBit i <;> cases c.testBit i <;> simp
theorem sel_sum (b i v u : Nat) : sel b i (v ^^^ u) = sel b i v ^^^ sel b i u := by
  unfold sel
  cases b.testBit i <;> simp
theorem dbl_xor {a b : Nat} (ha : a < 256) (hb : b < 256) : dbl (a ^^^ b) = dbl a ^^^ dbl b := by
  rw [dbl_eq ha, dbl_eq hb, dbl_eq (xor_lt ha hb), mul_xor2, mod_xor8, sel_xor, xor_swap]
theorem dblN_xor (n : Nat) {a b : Nat} (ha : a < 256) (hb : b < 256) : dblN n (a ^^^ b) = dblN n a ^^^ dblN n b := by
  induction n with
  | zero => rfl
  | succ n ih => show dbl _ = _; rw [ih, dbl_xor (dblN_lt n ha) (dblN_lt n hb)]; rfl
theorem mulTo_xor_left (n : Nat) {a c : Nat} (b : Nat) (ha : a < 256) (hc : c < 256) : mulTo n (a ^^^ c) b = mulTo n a b ^^^ mulTo n c b := by
  induction n with
  | zero => exact (Nat.xor_self 0).symm
  | succ n ih => show mulTo n _ b ^^^ _ = _; rw [ih, dblN_xor n ha hc, sel_sum, xor_swap]; rfl
theorem mulTo_xor_right (n a b c : Nat) : mulTo n a (b ^^^ c) = mulTo n a b ^^^ mulTo n a c := by
  induction n with
  | zero => exact (Nat.xor_self 0).symm
  | succ n ih => show mulTo n a _ ^^^ _ = _; rw [ih, sel_xor, xor_swap]; rfl
/-- Of sums the sums of products. -/
theorem mul_xor_left {a c : Nat} (b : Nat) (ha : a < 256) (hc : c < 256) : mulN (a ^^^ c) b = mulN a b ^^^ mulN c b := mulTo_xor_left 8 b ha hc
theorem mul_xor_right (a b c : Nat) : mulN a (b ^^^ c) = mulN a b ^^^ mulN a c := mulTo_xor_right 8 a b c
theorem dblN_zero (n : Nat) : dblN n 0 = 0 := by
  induction n with
  | zero => rfl
  | succ n ih => show dbl _ = _; rw [ih]; rfl
theorem mulTo_zero_left (n b : Nat) : mulTo n 0 b = 0 := by
  induction n with
  | zero => rfl
  | succ n ih => show mulTo n 0 b ^^^ _ = _; rw [ih, dblN_zero]; unfold sel; split <;> rfl
theorem mulTo_zero_right (n a : Nat) : mulTo n a 0 = 0 := by
  induction n with
  | zero => rfl
  | succ n ih => show mulTo n a 0 ^^^ _ = _; rw [ih]; unfold sel; simp
theorem zero_mul (b : Nat) : mulN 0 b = 0 := mulTo_zero_left 8 b
theorem mul_zero (a : Nat) : mulN a 0 = 0 := mulTo_zero_right 8 a

/-- Two products of two numbers that are sums of products at sums, and the same at bits, are the same. -/
theorem two_same (f g : Nat → Nat → Nat) (f0 : ∀ b, f 0 b = g 0 b) (f0' : ∀ a, f a 0 = g a 0)
    (fl : ∀ a c b, a < 256 → c < 256 → b < 256 → f (a ^^^ c) b = f a b ^^^ f c b) (gl : ∀ a c b, a < 256 → c < 256 → b < 256 → g (a ^^^ c) b = g a b ^^^ g c b)
    (fr : ∀ a b c, a < 256 → b < 256 → c < 256 → f a (b ^^^ c) = f a b ^^^ f a c) (gr : ∀ a b c, a < 256 → b < 256 → c < 256 → g a (b ^^^ c) = g a b ^^^ g a c)
    (hb : ∀ i, i < 8 → ∀ j, j < 8 → f (2 ^ i) (2 ^ j) = g (2 ^ i) (2 ^ j)) : ∀ a, a < 256 → ∀ b, b < 256 → f a b = g a b := by
  have p256 : ∀ i, i < 8 → 2 ^ i < 256 := fun i hi => by
    have : 2 ^ i < 2 ^ 8 := Nat.pow_lt_pow_right (by omega) hi
    simpa using this
  refine bit_induct _ (fun b _ => f0 b) (fun i hi => ?_) (fun a c ha hc h1 h2 b hb => ?_)
  · refine bit_induct _ (f0' _) (fun j hj => hb i hi j hj) (fun b c hb hc h1 h2 => ?_)
    rw [fr _ _ _ (p256 i hi) hb hc, gr _ _ _ (p256 i hi) hb hc, h1, h2]
  · rw [fl _ _ _ ha hc hb, gl _ _ _ ha hc hb, h1 b hb, h2 b hb]

theorem mul_comm {a b : Nat} (ha : a < 256) (hb : b < 256) : mulN a b = mulN b a :=
  two_same mulN (fun a b => mulN b a) (fun b => by rw [zero_mul, mul_zero]) (fun a => by rw [zero_mul, mul_zero])
    (fun a c b ha hc _ => mul_xor_left b ha hc) (fun a c b _ _ _ => mul_xor_right b a c) (fun a b c _ _ _ => mul_xor_right a b c) (fun a b c _ hb hc => mul_xor_left a hb hc)
    (by decide +kernel) a ha b hb

theorem mul_assoc {a b c : Nat} (ha : a < 256) (hb : b < 256) (hc : c < 256) : mulN a (mulN b c) = mulN (mulN a b) c := by
  refine bit_induct (fun a => mulN a (mulN b c) = mulN (mulN a b) c) (by simp only [zero_mul]) (fun i hi => ?_) (fun a d ha hd h1 h2 => ?_) a ha
  · have p256 : ∀ i, i < 8 → 2 ^ i < 256 := fun i hi => by
      have : 2 ^ i < 2 ^ 8 := Nat.pow_lt_pow_right (by omega) hi
      simpa using this
    refine two_same (fun b c => mulN (2 ^ i) (mulN b c)) (fun b c => mulN (mulN (2 ^ i) b) c) ?_ ?_ ?_ ?_ ?_ ?_ ?_ b hb c hc
    · intro b; simp only [zero_mul, mul_zero]
    · intro b; simp only [mul_zero]
    · intro a c b ha hc hb; simp only [mul_xor_left b ha hc, mul_xor_right]
    · intro a c b ha hc hb; simp only [mul_xor_right, mul_xor_left b (mulN_lt a (p256 i hi)) (mulN_lt c (p256 i hi))]
    · intro a b c _ _ _; simp only [mul_xor_right]
    · intro a b c _ _ _; simp only [mul_xor_right]
    · revert i; decide +kernel
  · rw [mul_xor_left _ ha hd, h1, h2, mul_xor_left _ ha hd, mul_xor_left _ (mulN_lt b ha) (mulN_lt b hd)]

theorem one_mul {a : Nat} (ha : a < 256) : mulN 1 a = a := by
  refine bit_induct (fun a => mulN 1 a = a) rfl ?_ (fun a b _ _ h1 h2 => by rw [mul_xor_right, h1, h2]) a ha
  decide +kernel
theorem mul_one {a : Nat} (ha : a < 256) : mulN a 1 = a := by rw [mul_comm ha (by omega), one_mul ha]

/-! The product by long division. -/

def polyTo : Nat → Nat → Nat → Nat
  | 0, _, _ => 0
  | n + 1, a, b => polyTo n a b ^^^ sel b n (a * 2 ^ n)
/-- The bits from 14 on down, so many of them, taken out. -/
def redTo : Nat → Nat → Nat
  | 0, v => v
  | m + 1, v => redTo m v ^^^ sel (redTo m v) (14 - m) (285 * 2 ^ (6 - m))
def refN (a b : Nat) : Nat := redTo 7 (polyTo 8 a b) % 256

theorem mul_xor_pow (a b n : Nat) : (a ^^^ b) * 2 ^ n = a * 2 ^ n ^^^ b * 2 ^ n := by
  have := Nat.shiftLeft_xor_distrib (a := a) (b := b) (i := n)
  simpa [Nat.shiftLeft_eq] using this
theorem polyTo_xor_left (n a c b : Nat) : polyTo n (a ^^^ c) b = polyTo n a b ^^^ polyTo n c b := by
  induction n with
  | zero => exact (Nat.xor_self 0).symm
  | succ n ih => show polyTo n _ b ^^^ _ = _; rw [ih, mul_xor_pow, sel_sum, xor_swap]; rfl
theorem polyTo_xor_right (n a b c : Nat) : polyTo n a (b ^^^ c) = polyTo n a b ^^^ polyTo n a c := by
  induction n with
  | zero => exact (Nat.xor_self 0).symm
  | succ n ih => show polyTo n a _ ^^^ _ = _; rw [ih, sel_xor, xor_swap]; rfl
theorem redTo_xor (m v u : Nat) : redTo m (v ^^^ u) = redTo m v ^^^ redTo m u := by
  induction m with
  | zero => rfl
  | succ m ih => show redTo m _ ^^^ _ = _; rw [ih, sel_xor, xor_swap]; rfl
theorem polyTo_zero_left (n b : Nat) : polyTo n 0 b = 0 := by
  induction n with
  | zero => rfl
  | succ n ih => show polyTo n 0 b ^^^ _ = _; rw [ih, Nat.zero_mul]; unfold sel; split <;> rfl
theorem polyTo_zero_right (n a : Nat) : polyTo n a 0 = 0 := by
  induction n with
  | zero => rfl
  | succ n ih => show polyTo n a 0 ^^^ _ = _; rw [ih]; unfold sel; simp
theorem refN_eq {a b : Nat} (ha : a < 256) (hb : b < 256) : refN a b = mulN a b :=
  two_same refN mulN (fun b => by rw [zero_mul]; unfold refN; rw [polyTo_zero_left]; rfl) (fun a => by rw [mul_zero]; unfold refN; rw [polyTo_zero_right]; rfl)
    (fun a c b _ _ _ => by unfold refN; rw [polyTo_xor_left, redTo_xor, mod_xor8]) (fun a c b ha hc _ => mul_xor_left b ha hc)
    (fun a b c _ _ _ => by unfold refN; rw [polyTo_xor_right, redTo_xor, mod_xor8]) (fun a b c _ _ _ => mul_xor_right a b c)
    (by decide +kernel) a ha b hb

theorem xor_lt_pow {a b n : Nat} (ha : a < 2 ^ n) (hb : b < 2 ^ n) : a ^^^ b < 2 ^ n := Nat.xor_lt_two_pow ha hb
theorem polyTo_lt (n : Nat) (hn : n ≤ 8) {a : Nat} (b : Nat) (ha : a < 256) : polyTo n a b < 32768 := by
  induction n with
  | zero => exact Nat.zero_lt_succ _
  | succ n ih =>
    have h1 : a * 2 ^ n < 2 ^ 15 := by
      have h2 : 2 ^ n ≤ 2 ^ 7 := Nat.pow_le_pow_right (by omega) (by omega)
      have h3 : a * 2 ^ n ≤ 255 * 2 ^ 7 := Nat.mul_le_mul (by omega) h2
      omega
    have h4 : sel b n (a * 2 ^ n) < 2 ^ 15 := by unfold sel; split <;> omega
    exact xor_lt_pow (n := 15) (ih (by omega)) h4
theorem redTo_lt (m : Nat) {v : Nat} (hv : v < 32768) : redTo m v < 32768 := by
  induction m with
  | zero => exact hv
  | succ m ih =>
    have h1 : 285 * 2 ^ (6 - m) < 2 ^ 15 := by
      have h2 : 2 ^ (6 - m) ≤ 2 ^ 6 := Nat.pow_le_pow_right (by omega) (by omega)
      omega
    have h4 : sel (redTo m v) (14 - m) (285 * 2 ^ (6 - m)) < 2 ^ 15 := by unfold sel; split <;> omega
    exact xor_lt_pow (n := 15) ih h4

/-! Powers. -/

def powN (a : Nat) : Nat → Nat
  | 0 => 1
  | n + 1 => mulN (powN a n) a
theorem powN_lt {a : Nat} (ha : a < 256) (n : Nat) : powN a n < 256 := by
  cases n with
  | zero => exact Nat.lt_of_sub_eq_succ rfl
  | succ n => rw [show powN a (n + 1) = mulN (powN a n) a from rfl, mul_comm (by exact powN_lt ha n) ha]; exact mulN_lt _ ha
theorem powN_add {a : Nat} (ha : a < 256) (m n : Nat) : powN a (m + n) = mulN (powN a m) (powN a n) := by
  induction n with
  | zero => exact (mul_one (powN_lt ha m)).symm
  | succ n ih => show mulN (powN a (m + n)) a = mulN _ (mulN _ a); rw [ih, mul_assoc (powN_lt ha m) (powN_lt ha n) ha]
theorem powN_sq {a : Nat} (ha : a < 256) (n : Nat) : powN (mulN a a) n = powN a (2 * n) := by
  induction n with
  | zero => rfl
  | succ n ih =>
    show mulN (powN (mulN a a) n) (mulN a a) = _
    rw [ih, show 2 * (n + 1) = 2 * n + 2 by omega, powN_add ha]
    show _ = mulN _ (mulN (mulN 1 a) a)
    rw [one_mul ha]
theorem powN_one {a : Nat} (ha : a < 256) : powN a 1 = a := by show mulN 1 a = a; exact one_mul ha
/-- The rest of a power by squares: what is left goes on. -/
theorem pow_odd {p a k : Nat} (hp : p < 256) (ha : a < 256) (h : k % 2 = 1) : mulN (mulN p a) (powN (mulN a a) (k / 2)) = mulN p (powN a k) := by
  have e : k = 1 + 2 * (k / 2) := by omega
  conv => rhs; rw [e, powN_add ha, powN_one ha]
  rw [powN_sq ha, ← mul_assoc hp ha (powN_lt ha _)]
theorem pow_even {p a k : Nat} (ha : a < 256) (h : k % 2 = 0) : mulN p (powN (mulN a a) (k / 2)) = mulN p (powN a k) := by
  have e : k = 2 * (k / 2) := by omega
  conv => rhs; rw [e]
  rw [powN_sq ha]

/-- By squares, for the kernel. -/
def pw2 (a : Nat) : Nat → Nat
  | 0 => a
  | n + 1 => mulN (pw2 a n) (pw2 a n)
theorem pw2_eq {a : Nat} (ha : a < 256) (n : Nat) : pw2 a n = powN a (2 ^ n) := by
  induction n with
  | zero => exact (powN_one ha).symm
  | succ n ih => show mulN (pw2 a n) (pw2 a n) = _; rw [ih, ← powN_add ha]; congr 1; rw [Nat.pow_succ]; omega
theorem inv_known : ∀ a, a < 256 → a ≠ 0 → mulN (pw2 a 0) (mulN (pw2 a 1) (mulN (pw2 a 2) (mulN (pw2 a 3) (mulN (pw2 a 4) (mulN (pw2 a 5) (mulN (pw2 a 6) (pw2 a 7))))))) = 1 := by decide +kernel
/-- A number, but 0, times its power 254 is 1. -/
theorem pow_255 {a : Nat} (ha : a < 256) (h : a ≠ 0) : powN a 255 = 1 := by
  have h1 := inv_known a ha h
  simp only [pw2_eq ha, ← powN_add ha] at h1
  exact h1
theorem mul_inv {a : Nat} (ha : a < 256) (h : a ≠ 0) : mulN a (powN a 254) = 1 := by
  have e := powN_add ha 1 254
  rw [powN_one ha] at e
  rw [← e]; exact pow_255 ha h

/-! The loop of the product by doubling. -/

theorem mulTo_high {a b n : Nat} (h : b / 2 ^ n = 0) (m : Nat) : mulTo (n + m) a b = mulTo n a b := by
  induction m with
  | zero => rfl
  | succ m ih =>
    show mulTo (n + m) a b ^^^ sel b (n + m) _ = _
    have hb : b < 2 ^ n := (Nat.div_eq_zero_iff_lt (Nat.two_pow_pos n)).1 h
    have hb2 : b < 2 ^ (n + m) := Nat.lt_of_lt_of_le hb (Nat.pow_le_pow_right (by omega) (by omega))
    rw [ih]
    unfold sel
    rw [Nat.testBit_lt_two_pow hb2]
    simp
theorem mulTo_done {a b n : Nat} (hn : n ≤ 8) (h : b / 2 ^ n = 0) : mulTo n a b = mulN a b := by
  have := mulTo_high (a := a) h (8 - n)
  rw [show n + (8 - n) = 8 by omega] at this
  exact this.symm
theorem bit_of (b n : Nat) : b.testBit n = decide (b / 2 ^ n % 2 = 1) := Nat.testBit_eq_decide_div_mod_eq
theorem mulTo_one {a b n : Nat} (h : b / 2 ^ n % 2 = 1) : mulTo (n + 1) a b = mulTo n a b ^^^ dblN n a := by
  show _ ^^^ sel b n _ = _
  unfold sel
  rw [bit_of]; simp [h]
theorem mulTo_none {a b n : Nat} (h : ¬ b / 2 ^ n % 2 = 1) : mulTo (n + 1) a b = mulTo n a b := by
  show _ ^^^ sel b n _ = _
  unfold sel
  rw [bit_of]; simp [h]
theorem polyTo_one {a b n : Nat} (h : b / 2 ^ n % 2 = 1) : polyTo (n + 1) a b = polyTo n a b ^^^ a * 2 ^ n := by
  show _ ^^^ sel b n _ = _
  unfold sel
  rw [bit_of]; simp [h]
theorem polyTo_none {a b n : Nat} (h : ¬ b / 2 ^ n % 2 = 1) : polyTo (n + 1) a b = polyTo n a b := by
  show _ ^^^ sel b n _ = _
  unfold sel
  rw [bit_of]; simp [h]
theorem redTo_one {m v : Nat} (h : redTo m v / 2 ^ (14 - m) % 2 = 1) : redTo (m + 1) v = redTo m v ^^^ 285 * 2 ^ (6 - m) := by
  show _ ^^^ sel _ _ _ = _
  unfold sel
  rw [bit_of]; simp [h]
theorem redTo_none {m v : Nat} (h : ¬ redTo m v / 2 ^ (14 - m) % 2 = 1) : redTo (m + 1) v = redTo m v := by
  show _ ^^^ sel _ _ _ = _
  unfold sel
  rw [bit_of]; simp [h]

end Go.Proofs.Ytdfgdpgffblbpaa
