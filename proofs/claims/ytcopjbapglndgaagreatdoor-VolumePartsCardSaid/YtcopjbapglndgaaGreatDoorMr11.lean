/-
  What Decode makes of bytes: plain mathematics.
  slices.Concat of bytes; packet's digest of a name and what is told.
  Package codec: an In in memory; take, fail.
  Package codec: what an In answers.
  Package packet: how many bytes a packet says it has.
  Package packet: bytes copied into cells of a row; slices' sums that are read.
-/
import Derived.Test.YtcopjbapglndgaaGreatDoorMr10
import Derived.Lib.AppendZeros
import Derived.Deep.DeepCutAuto
import Derived.Deep.CutBlock
import Derived.Laws.CopyRow
import Derived.Laws.IdiomCopy
section
namespace Go.Proofs.YtcopjbapglndgaaGreatDoor
set_option linter.unusedVariables false

/-! Numbers read back. -/

theorem wide_num : ∀ (n : Nat) (x : List Nat), x.length = n → (∀ y ∈ x, y < 256) → wideN (numN x) n = x
  | 0, x, h, _ => by rw [List.length_eq_zero_iff.1 h]; rfl
  | n + 1, x, h, hb => by
    rcases List.eq_nil_or_concat x with rfl | ⟨l, y, rfl⟩
    · simp at h
    · rw [List.concat_eq_append] at h hb ⊢
      rw [numN_snoc, wideN]
      have hy := hb y (by simp)
      have hl : l.length = n := by simpa using h
      rw [show (numN l * 256 + y) / 256 = numN l by omega, show (numN l * 256 + y) % 256 = y by omega, wide_num n l hl fun z hz => hb z (by simp [hz])]
theorem takeI_some {s : Option (List Nat)} {n : Int} {x r : List Nat} (h : takeI s n = some (x, r)) : s = some (x ++ r) ∧ (x.length : Int) = n := by
  cases s with
  | none => simp [takeI] at h
  | some l =>
    simp only [takeI, Option.bind_some] at h
    split at h
    · rename_i hc
      simp only [Option.some.injEq, Prod.mk.injEq] at h
      obtain ⟨rfl, rfl⟩ := h
      exact ⟨by rw [List.take_append_drop], by rw [List.length_take]; omega⟩
    · cases h
theorem gN_some {s : Option (List Nat)} {n : Nat} {x r : List Nat} (h : gN s (n : Int) = some (x, r)) : s = some (x ++ r) ∧ x.length = n := by
  unfold gN at h
  split at h
  · have := takeI_some h
    exact ⟨this.1, by omega⟩
  · cases h
/-- A number that was there. -/
theorem restN_some {s : Option (List Nat)} {n : Nat} {r : List Nat} (h : restN s (n : Int) = some r) : ∃ x, s = some (x ++ r) ∧ x.length = n ∧ ansN s (n : Int) = numN x := by
  unfold restN at h
  cases hg : gN s (n : Int) with
  | none => rw [hg] at h; cases h
  | some p =>
    obtain ⟨x, r'⟩ := p
    rw [hg] at h
    cases h
    obtain ⟨h1, h2⟩ := gN_some hg
    exact ⟨x, h1, h2, by unfold ansN; rw [hg]; rfl⟩
theorem restR_some {s : Option (List Nat)} {n : Nat} {r : List Nat} (h : restR s (n : Int) = some r) : ∃ x, s = some (x ++ r) ∧ x.length = n ∧ ansR s (n : Int) = x := by
  unfold restR at h
  cases hg : takeI s (n : Int) with
  | none => rw [hg] at h; cases h
  | some p =>
    obtain ⟨x, r'⟩ := p
    rw [hg] at h
    cases h
    obtain ⟨h1, h2⟩ := takeI_some hg
    exact ⟨x, h1, by omega, by unfold ansR; rw [hg]; rfl⟩
theorem restT_some {s : Option (List Nat)} {r : List Nat} (hb : ∀ l, s = some l → ∀ y ∈ l, y < 256) (h : restT s = some r) : ∃ x, s = some (x.length :: x ++ r) ∧ x.length < 256 ∧ ansT s = x := by
  unfold restT at h
  cases hg : gT s with
  | none => rw [hg] at h; cases h
  | some p =>
    obtain ⟨x, r'⟩ := p
    have hg0 := hg
    rw [hg] at h
    cases h
    unfold gT at hg
    cases hn : gN s 1 with
    | none => rw [hn] at hg; cases hg
    | some q =>
      obtain ⟨y, t⟩ := q
      rw [hn] at hg
      simp only [Option.bind_some] at hg
      obtain ⟨e1, e2⟩ := takeI_some hg
      obtain ⟨e3, e4⟩ := gN_some (n := 1) hn
      obtain ⟨c, rfl⟩ := List.length_eq_one_iff.1 e4
      simp only [Option.some.injEq] at e1
      subst e1
      have hc := hb _ e3 c (by simp)
      have e5 : numN [c] = c := by simp [numN]
      rw [e5] at e2
      have e6 : x.length = c := by omega
      subst e6
      exact ⟨x, by simpa using e3, hc, by unfold ansT; rw [hg0]; rfl⟩
theorem back_w {v n : Nat} {r : List Nat} (h1 : 1 ≤ n) (h2 : n ≤ 6) (h3 : v < 256 ^ n) : ansN (some (wideN v n ++ r)) (n : Int) = v ∧ restN (some (wideN v n ++ r)) (n : Int) = some r := by
  have e := take_app (wideN v n) r
  rw [wideN_len] at e
  have e : gN (some (wideN v n ++ r)) (n : Int) = some (wideN v n, r) := by
    unfold gN
    rw [if_pos ⟨by omega, by omega⟩, e]
  exact ⟨by unfold ansN; rw [e]; exact numN_wide n v h3, by unfold restN; rw [e]; rfl⟩
theorem back_1 {v : Nat} {r : List Nat} : ansN (some (v :: r)) 1 = v ∧ restN (some (v :: r)) 1 = some r := by
  have e := take_app [v] r
  have e : gN (some (v :: r)) 1 = some ([v], r) := by
    unfold gN
    rw [if_pos ⟨by omega, by omega⟩]
    exact e
  exact ⟨by unfold ansN; rw [e]; simp [numN], by unfold restN; rw [e]; rfl⟩
theorem back_raw {b r : List Nat} {n : Nat} (h : b.length = n) : ansR (some (b ++ r)) (n : Int) = b ∧ restR (some (b ++ r)) (n : Int) = some r := by
  subst h
  exact back_r
theorem back_text {b r : List Nat} (h : b.length < 256) : ansT (some (b.length :: (b ++ r))) = b ∧ restT (some (b.length :: (b ++ r))) = some r := by
  have := back_t (b := b) (x := b.length :: b) (r := r) (by unfold putT; rw [if_pos (by omega)])
  simpa using this

/-! A packet's kind and body, read. -/

def rdSm (m : List Nat) : Sm := ⟨(numN (m.take 2) : Nat), numN ((m.drop 2).take 4), (m.drop 6).take 32⟩
def rdSums (c : Nat) (m : List Nat) : List Sm := (List.range c).map fun k => rdSm (m.drop (38 * k))
def zPk : Pk := ⟨List.replicate 8 0, 0, 0, 0, 0, 0, zFil, [], 0, []⟩
def rdMain (set : List Nat) (s : Option (List Nat)) : Option Pk :=
  if restN (restN (restN s 2) 1) 2 = some [] then some { zPk with set := set, kind := 1, slice := (ansN s 2 : Nat), files := (ansN (restN s 2) 1 : Nat), slices := (ansN (restN (restN s 2) 1) 2 : Nat) } else none
def rdFile (set : List Nat) (s : Option (List Nat)) : Option Pk :=
  if restN (restR (restN (restT (restN s 1)) 4) 32) 2 = some [] then
    some { zPk with set := set, kind := 2, index := (ansN s 1 : Nat), file := ⟨ansT (restN s 1), (ansN (restT (restN s 1)) 4 : Nat), ansR (restN (restT (restN s 1)) 4) 32, (ansN (restR (restN (restT (restN s 1)) 4) 32) 2 : Nat)⟩ } else none
def rdSumsP (set : List Nat) (s : Option (List Nat)) : Option Pk :=
  match restN (restN s 1) 2 with
  | some m => if m.length = 38 * ansN (restN s 1) 2 then some { zPk with set := set, kind := 3, index := (ansN s 1 : Nat), sums := rdSums (ansN (restN s 1) 2) m } else none
  | none => none
def rdSym (set : List Nat) (s : Option (List Nat)) : Option Pk :=
  match restN s 4 with
  | some m => if 1 ≤ m.length ∧ m.length ≤ 256 then some { zPk with set := set, kind := 4, id := ansN s 4, data := m } else none
  | none => none
def rdN (set l : List Nat) : Option Pk :=
  if ansN (some l) 1 = 1 then rdMain set (restN (some l) 1) else if ansN (some l) 1 = 2 then rdFile set (restN (some l) 1) else if ansN (some l) 1 = 3 then rdSumsP set (restN (some l) 1) else if ansN (some l) 1 = 4 then rdSym set (restN (some l) 1) else none

theorem i64R_small (n : Nat) (h : n < 5) : i64R (n : Int) := ⟨by omega, by omega⟩
theorem num_lt (x : List Nat) (hb : ∀ y ∈ x, y < 256) {n : Nat} (h : x.length = n) : numN x < 256 ^ n := by subst h; exact numN_lt x hb
theorem zFil_ok : FilOk zFil := ⟨by simp [zFil, IsByte], i64R_small 0 (by decide), i64R_small 0 (by decide), by simp [zFil], by intro y hy; simp [zFil] at hy; omega, by simp [zFil]⟩
theorem u64N_nat (n : Nat) (h : n < 18446744073709551616) : u64N (n : Int) = n := by unfold u64N; omega
theorem u8N_nat (n : Nat) (h : n < 256) : u8N (n : Int) = n := by unfold u8N; omega
theorem sm_split {m : List Nat} (h : 38 ≤ m.length) (hb : ∀ y ∈ m, y < 256) : SmOk (rdSm m) ∧ (0 ≤ (rdSm m).n ∧ (rdSm m).n < 65536) ∧ sumN (rdSm m) = m.take 38 := by
  have h1 : (m.take 2).length = 2 := by rw [List.length_take]; omega
  have h2 : ((m.drop 2).take 4).length = 4 := by rw [List.length_take, List.length_drop]; omega
  have h3 : ((m.drop 6).take 32).length = 32 := by rw [List.length_take, List.length_drop]; omega
  have b1 : ∀ y ∈ m.take 2, y < 256 := fun y hy => hb y (List.mem_of_mem_take hy)
  have b2 : ∀ y ∈ (m.drop 2).take 4, y < 256 := fun y hy => hb y (List.mem_of_mem_drop (List.mem_of_mem_take hy))
  have b3 : ∀ y ∈ (m.drop 6).take 32, y < 256 := fun y hy => hb y (List.mem_of_mem_drop (List.mem_of_mem_take hy))
  have n1 := num_lt _ b1 h1
  have n2 := num_lt _ b2 h2
  refine ⟨⟨?_, n2, h3, b3⟩, ⟨?_, ?_⟩, ?_⟩
  · show i64R ((numN (m.take 2) : Nat) : Int)
    exact ⟨by omega, by omega⟩
  · show (0 : Int) ≤ ((numN (m.take 2) : Nat) : Int)
    omega
  · show ((numN (m.take 2) : Nat) : Int) < 65536
    omega
  · unfold sumN rdSm
    simp only
    rw [u64N_nat _ (by omega), wide_num 2 _ h1 b1, wide_num 4 _ h2 b2]
    have e1 : m.drop 2 = (m.drop 2).take 4 ++ m.drop 6 := by
      have := (List.take_append_drop 4 (m.drop 2)).symm
      rwa [List.drop_drop] at this
    have e2 : m.take 38 = m.take 2 ++ (m.drop 2).take 36 := by
      rw [show 38 = 2 + 36 by rfl, List.take_add]
    have e3 : (m.drop 2).take 36 = (m.drop 2).take 4 ++ (m.drop 6).take 32 := by
      rw [show 36 = 4 + 32 by rfl, List.take_add, List.drop_drop]
    rw [e2, e3, List.append_assoc]
theorem rdSums_flat : ∀ (c : Nat) (m : List Nat), 38 * c ≤ m.length → (∀ y ∈ m, y < 256) → ((rdSums c m).map sumN).flatten = m.take (38 * c) ∧ ∀ x ∈ rdSums c m, SmOk x ∧ 0 ≤ x.n ∧ x.n < 65536
  | 0, m, _, _ => by simp [rdSums]
  | c + 1, m, h, hb => by
    have hd : ∀ y ∈ m.drop 38, y < 256 := fun y hy => hb y (List.mem_of_mem_drop hy)
    obtain ⟨i1, i2⟩ := rdSums_flat c (m.drop 38) (by rw [List.length_drop]; omega) hd
    obtain ⟨s1, s2, s3⟩ := sm_split (m := m) (by omega) hb
    have e : rdSums (c + 1) m = rdSm m :: rdSums c (m.drop 38) := by
      unfold rdSums
      rw [List.range_succ_eq_map, List.map_cons, List.map_map]
      congr 1
      apply List.map_congr_left
      intro k _
      simp only [Function.comp, List.drop_drop]
      congr 2
      omega
    rw [e]
    constructor
    · rw [List.map_cons, List.flatten_cons, i1, s3, show 38 * (c + 1) = 38 + 38 * c by omega, List.take_add]
    · intro x hx
      rcases List.mem_cons.1 hx with rfl | hx
      · exact ⟨s1, s2⟩
      · exact i2 x hx
theorem rdSums_len (c : Nat) (m : List Nat) : (rdSums c m).length = c := by simp [rdSums]
theorem rdSums_get {c k : Nat} (m : List Nat) (h : k < c) : (rdSums c m)[k]'(by rw [rdSums_len]; exact h) = rdSm (m.drop (38 * k)) := by simp [rdSums]

/-- What is read is a packet, and just that. -/
theorem rd_sound {set l : List Nat} {p : Pk} (h8 : set.length = 8) (hsb : IsByte set) (hl : IsByte l) (h : rdN set l = some p) : p.set = set ∧ PkIn p ∧ pkOk p ∧ kbN p.kind (pkBody p) = l := by
  have hz : zNone zPk := ⟨rfl, rfl, rfl⟩
  unfold rdN at h
  have hk : ∀ s, restN (some l) 1 = some s → ∃ k, l = k :: s ∧ ansN (some l) 1 = k := fun s hs => by
    obtain ⟨x, e1, e2, e3⟩ := restN_some (n := 1) hs
    obtain ⟨k, rfl⟩ := List.length_eq_one_iff.1 e2
    exact ⟨k, by simpa using e1, e3.trans (by simp [numN])⟩
  split at h
  · rename_i k1
    unfold rdMain at h
    split at h
    · rename_i hd
      cases h
      obtain ⟨x3, e5, e6, a3⟩ := restN_some (n := 2) hd
      obtain ⟨x2, e3, e4, a2⟩ := restN_some (n := 1) e5
      obtain ⟨x1, e1, e2, a1⟩ := restN_some (n := 2) e3
      obtain ⟨k, rfl, hk1⟩ := hk _ e1
      rw [k1] at hk1
      subst hk1
      have b1 : ∀ y ∈ x1, y < 256 := fun y hy => hl y (by simp [hy])
      have b2 : ∀ y ∈ x2, y < 256 := fun y hy => hl y (by simp [hy])
      have b3 : ∀ y ∈ x3, y < 256 := fun y hy => hl y (by simp [hy])
      have n1 := num_lt _ b1 e2
      have n2 := num_lt _ b2 e4
      have n3 := num_lt _ b3 e6
      have w1 := wide_num 2 x1 e2 b1
      have w3 := wide_num 2 x3 e6 b3
      obtain ⟨y2, rfl⟩ := List.length_eq_one_iff.1 e4
      have z2 : numN [y2] = y2 := by simp [numN]
      have a1 : ansN (restN (some (1 :: (x1 ++ ([y2] ++ (x3 ++ []))))) 1) 2 = numN x1 := a1
      have a2 : ansN (restN (restN (some (1 :: (x1 ++ ([y2] ++ (x3 ++ []))))) 1) 2) 1 = numN [y2] := a2
      have a3 : ansN (restN (restN (restN (some (1 :: (x1 ++ ([y2] ++ (x3 ++ []))))) 1) 2) 1) 2 = numN x3 := a3
      simp only [a1, a2, a3]
      refine ⟨trivial, ⟨h8, hsb, i64R_small 1 (by decide), ⟨by simp only; omega, by simp only; omega⟩, ⟨by simp only; omega, by simp only; omega⟩, ⟨by simp only; omega, by simp only; omega⟩, i64R_small 0 (by decide), zFil_ok, by simp [zPk], by simp [zPk], by simp [zPk, IsByte]⟩, .inl ⟨rfl, ⟨by simp only; omega, by simp only; omega⟩, ⟨by simp only; omega, by simp only; omega⟩, ⟨by simp only; omega, by simp only; omega⟩, rfl, rfl, rfl, rfl, rfl⟩, ?_⟩
      unfold pkBody
      rw [if_pos rfl]
      unfold mainN kbN
      simp only
      rw [u64N_nat _ (by omega), u64N_nat _ (by omega), w1, w3, u8N_nat _ (by omega), z2]
      simp [u8N]
    · cases h
  · split at h
    · rename_i k0 k1
      unfold rdFile at h
      split at h
      · rename_i hd
        cases h
        obtain ⟨x5, e9, e10, a5⟩ := restN_some (n := 2) hd
        obtain ⟨x4, e7, e8, a4⟩ := restR_some (n := 32) e9
        obtain ⟨x3, e5, e6, a3⟩ := restN_some (n := 4) e7
        have hbs : ∀ t, restN (restN (some l) 1) 1 = some t → ∀ y ∈ t, y < 256 := fun t ht y hy => by
          obtain ⟨u, f1, _, _⟩ := restN_some (n := 1) ht
          obtain ⟨v, f2, _, _⟩ := restN_some (n := 1) f1
          cases f2
          exact hl y (by simp [hy])
        obtain ⟨x2, e3, e4, a2⟩ := restT_some hbs e5
        obtain ⟨x1, e1, e2, a1⟩ := restN_some (n := 1) e3
        obtain ⟨k, rfl, hk1⟩ := hk _ e1
        rw [k1] at hk1
        subst hk1
        have b1 : ∀ y ∈ x1, y < 256 := fun y hy => hl y (by simp [hy])
        have b2 : ∀ y ∈ x2, y < 256 := fun y hy => hl y (by simp [hy])
        have b3 : ∀ y ∈ x3, y < 256 := fun y hy => hl y (by simp [hy])
        have b4 : ∀ y ∈ x4, y < 256 := fun y hy => hl y (by simp [hy])
        have b5 : ∀ y ∈ x5, y < 256 := fun y hy => hl y (by simp [hy])
        have n1 := num_lt _ b1 e2
        have n3 := num_lt _ b3 e6
        have n5 := num_lt _ b5 e10
        have w3 := wide_num 4 x3 e6 b3
        have w5 := wide_num 2 x5 e10 b5
        obtain ⟨y1, rfl⟩ := List.length_eq_one_iff.1 e2
        have z1 : numN [y1] = y1 := by simp [numN]
        generalize hL : (2 :: ([y1] ++ (x2.length :: x2 ++ (x3 ++ (x4 ++ (x5 ++ [])))))) = L at *
        have a1 : ansN (restN (some L) 1) 1 = numN [y1] := a1
        have a3 : ansN (restT (restN (restN (some L) 1) 1)) 4 = numN x3 := a3
        have a4 : ansR (restN (restT (restN (restN (some L) 1) 1)) 4) 32 = x4 := a4
        have a5 : ansN (restR (restN (restT (restN (restN (some L) 1) 1)) 4) 32) 2 = numN x5 := a5
        simp only [a1, a2, a3, a4, a5]
        refine ⟨trivial, ⟨h8, hsb, i64R_small 2 (by decide), i64R_small 0 (by decide), i64R_small 0 (by decide), i64R_small 0 (by decide), ⟨by simp only; omega, by simp only; omega⟩, ⟨b2, ⟨by simp only; omega, by simp only; omega⟩, ⟨by simp only; omega, by simp only; omega⟩, e8, b4, by simp only; omega⟩, by simp [zPk], by simp [zPk], by simp [zPk, IsByte]⟩, .inr (.inl ⟨rfl, hz, ⟨by simp only; omega, by simp only; omega⟩, e4, ⟨by simp only; omega, by simp only; omega⟩, ⟨by simp only; omega, by simp only; omega⟩, rfl, rfl, rfl⟩), ?_⟩
        unfold pkBody
        rw [if_neg (by simp), if_pos rfl]
        unfold fileN kbN
        simp only
        rw [u64N_nat _ (by omega), u64N_nat _ (by omega), w3, w5, u8N_nat _ (by omega), u8N_nat _ (by omega), z1, ← hL]
        simp [u8N]
      · cases h
    · split at h
      · rename_i k00 k0 k1
        unfold rdSumsP at h
        split at h
        · rename_i m hm
          split at h
          · rename_i hlen
            cases h
            obtain ⟨x2, e3, e4, a2⟩ := restN_some (n := 2) hm
            obtain ⟨x1, e1, e2, a1⟩ := restN_some (n := 1) e3
            obtain ⟨k, rfl, hk1⟩ := hk _ e1
            rw [k1] at hk1
            subst hk1
            have b1 : ∀ y ∈ x1, y < 256 := fun y hy => hl y (by simp [hy])
            have b2 : ∀ y ∈ x2, y < 256 := fun y hy => hl y (by simp [hy])
            have bm : ∀ y ∈ m, y < 256 := fun y hy => hl y (by simp [hy])
            have n1 := num_lt _ b1 e2
            have n2 := num_lt _ b2 e4
            have w2 := wide_num 2 x2 e4 b2
            obtain ⟨y1, rfl⟩ := List.length_eq_one_iff.1 e2
            have z1 : numN [y1] = y1 := by simp [numN]
            generalize hL : (3 :: ([y1] ++ (x2 ++ m))) = L at *
            have a1 : ansN (restN (some L) 1) 1 = numN [y1] := a1
            have a2 : ansN (restN (restN (some L) 1) 1) 2 = numN x2 := a2
            rw [a2] at hlen
            simp only [a1, a2]
            obtain ⟨f1, f2⟩ := rdSums_flat (numN x2) m (by omega) bm
            refine ⟨trivial, ⟨h8, hsb, i64R_small 3 (by decide), i64R_small 0 (by decide), i64R_small 0 (by decide), i64R_small 0 (by decide), ⟨by simp only; omega, by simp only; omega⟩, zFil_ok, fun x hx => (f2 x hx).1, by simp [zPk], by simp [zPk, IsByte]⟩, .inr (.inr (.inl ⟨rfl, hz, rfl, ⟨rfl, rfl⟩, ⟨by simp only; omega, by simp only; omega⟩, by simp only [rdSums_len]; omega, fun x hx => (f2 x hx).2⟩)), ?_⟩
            unfold pkBody
            rw [if_neg (by simp), if_neg (by simp), if_pos rfl]
            unfold sumsN kbN
            simp only
            rw [f1, rdSums_len, w2, u8N_nat _ (by omega), z1, ← hL, ← hlen, List.take_length]
            simp [u8N]
          · cases h
        · cases h
      · split at h
        · rename_i k000 k00 k0 k1
          unfold rdSym at h
          split at h
          · rename_i m hm
            split at h
            · rename_i hlen
              cases h
              obtain ⟨x1, e1, e2, a1⟩ := restN_some (n := 4) hm
              obtain ⟨k, rfl, hk1⟩ := hk _ e1
              rw [k1] at hk1
              subst hk1
              have b1 : ∀ y ∈ x1, y < 256 := fun y hy => hl y (by simp [hy])
              have bm : ∀ y ∈ m, y < 256 := fun y hy => hl y (by simp [hy])
              have n1 := num_lt _ b1 e2
              have w1 := wide_num 4 x1 e2 b1
              have a1 : ansN (restN (some (4 :: (x1 ++ m))) 1) 4 = numN x1 := a1
              simp only [a1]
              refine ⟨trivial, ⟨h8, hsb, i64R_small 4 (by decide), i64R_small 0 (by decide), i64R_small 0 (by decide), i64R_small 0 (by decide), i64R_small 0 (by decide), zFil_ok, by simp [zPk], by simp only; omega, bm⟩, .inr (.inr (.inr ⟨rfl, hz, rfl, rfl, rfl, hlen.1, hlen.2⟩)), ?_⟩
              unfold pkBody
              rw [if_neg (by simp), if_neg (by simp), if_neg (by simp)]
              unfold symbolN kbN
              simp only
              rw [w1]
              simp [u8N]
            · cases h
          · cases h
        · cases h
/-- A formed packet is read. -/
theorem rd_some {p : Pk} (hi : PkIn p) (ho : pkOk p) : ∃ q, rdN p.set (kbN p.kind (pkBody p)) = some q := by
  have hk := kind_of ho
  have ek : u8N p.kind = p.kind.toNat := by unfold u8N; omega
  unfold rdN kbN
  rw [List.singleton_append, back_1.1, back_1.2, ek]
  rcases ho with o | o | o | o
  · have k1 := o.1
    rw [k1, if_pos (by decide)]
    unfold pkBody
    rw [if_pos k1]
    unfold mainN rdMain
    have o1 := o.2.1.2
    have o2 := o.2.2.2.1.2
    have w1 := u64N_of o.2.1.1 (by omega)
    have w2 := u8N_of o.2.2.1.1 o.2.2.1.2
    have w3 := u64N_of o.2.2.2.1.1 (by omega)
    have b1 := back_w (v := u64N p.slice) (n := 2) (r := u8N p.files :: (wideN (u64N p.slices) 2 ++ [])) (by omega) (by omega) (by omega)
    have b2 := back_w (v := u64N p.slices) (n := 2) (r := []) (by omega) (by omega) (by omega)
    have e : wideN (u64N p.slice) 2 ++ [u8N p.files] ++ wideN (u64N p.slices) 2 = wideN (u64N p.slice) 2 ++ (u8N p.files :: (wideN (u64N p.slices) 2 ++ [])) := by simp
    have c1 : restN (some (wideN (u64N p.slice) 2 ++ (u8N p.files :: (wideN (u64N p.slices) 2 ++ [])))) 2 = _ := b1.2
    have c2 : restN (some (wideN (u64N p.slices) 2 ++ [])) 2 = _ := b2.2
    rw [e, c1, back_1.2, c2, if_pos rfl]
    exact ⟨_, rfl⟩
  · have k1 := o.1
    rw [k1, if_neg (by decide), if_pos (by decide)]
    unfold pkBody
    rw [if_neg (by rw [k1]; decide), if_pos k1]
    unfold fileN rdFile
    obtain ⟨_, _, x4, x5, x6, x7, _⟩ := o
    have w1 := u64N_of x6.1 (by omega)
    have w2 := u64N_of x7.1 (by omega)
    have w3 := u8N_nat p.file.name.length x5
    have dl := hi.file.dgl
    have e : [u8N p.index, u8N p.file.name.length] ++ p.file.name ++ wideN (u64N p.file.size) 4 ++ p.file.dg ++ wideN (u64N p.file.first) 2 = u8N p.index :: (p.file.name.length :: (p.file.name ++ (wideN (u64N p.file.size) 4 ++ (p.file.dg ++ (wideN (u64N p.file.first) 2 ++ []))))) := by rw [w3]; simp
    rw [e, back_1.2, (back_text x5).2]
    have c1 : restN (some (wideN (u64N p.file.size) 4 ++ (p.file.dg ++ (wideN (u64N p.file.first) 2 ++ [])))) 4 = _ := (back_w (n := 4) (by omega) (by omega) (by omega)).2
    have c2 : restR (some (p.file.dg ++ (wideN (u64N p.file.first) 2 ++ []))) 32 = _ := (back_raw (n := 32) dl).2
    have c3 : restN (some (wideN (u64N p.file.first) 2 ++ [])) 2 = _ := (back_w (n := 2) (by omega) (by omega) (by omega)).2
    rw [c1, c2, c3, if_pos rfl]
    exact ⟨_, rfl⟩
  · have k1 := o.1
    rw [k1, if_neg (by decide), if_neg (by decide), if_pos (by decide)]
    unfold pkBody
    rw [if_neg (by rw [k1]; decide), if_neg (by rw [k1]; decide), if_pos k1]
    unfold sumsN rdSumsP
    obtain ⟨_, _, _, _, x7, x8, x9⟩ := o
    have e : [u8N p.index] ++ wideN p.sums.length 2 ++ (p.sums.map sumN).flatten = u8N p.index :: (wideN p.sums.length 2 ++ (p.sums.map sumN).flatten) := by simp
    have b := back_w (v := p.sums.length) (n := 2) (r := (p.sums.map sumN).flatten) (by omega) (by omega) (by omega)
    have c1 : restN (some (wideN p.sums.length 2 ++ (p.sums.map sumN).flatten)) 2 = _ := b.2
    have c2 : ansN (some (wideN p.sums.length 2 ++ (p.sums.map sumN).flatten)) 2 = _ := b.1
    rw [e, back_1.2, c1, c2]
    simp only
    rw [if_pos (sums_len hi.sums)]
    exact ⟨_, rfl⟩
  · have k1 := o.1
    rw [k1, if_neg (by decide), if_neg (by decide), if_neg (by decide), if_pos (by decide)]
    unfold pkBody
    rw [if_neg (by rw [k1]; decide), if_neg (by rw [k1]; decide), if_neg (by rw [k1]; decide)]
    unfold symbolN rdSym
    obtain ⟨_, _, _, _, _, x7, x8⟩ := o
    have c1 : restN (some (wideN p.id 4 ++ p.data)) 4 = _ := (back_w (n := 4) (by omega) (by omega) (by have := hi.id; omega)).2
    rw [c1]
    simp only
    rw [if_pos ⟨x7, x8⟩]
    exact ⟨_, rfl⟩

/-! Decode. -/

inductive Dec
  | form
  | sum
  | ok (p : Pk) (n : Nat)
/-- How many bytes the packet that begins says it has; 0: none does, or they aren't there. -/
def saidN (l : List Nat) : Nat := numN ((l.drop 4).take 4)
def claimN (l : List Nat) : Nat := if 48 < l.length ∧ l.take 4 = [71, 89, 83, 49] ∧ 48 < saidN l ∧ saidN l ≤ l.length then saidN l else 0
def setN (l : List Nat) : List Nat := (l.drop 8).take 8
def sumD (l : List Nat) : List Nat := (l.drop 16).take 32
def kbD (l : List Nat) (n : Nat) : List Nat := (l.drop 48).take (n - 48)
def decN (l : List Nat) : Dec :=
  if claimN l = 0 then .form else
  match rdN (setN l) (kbD l (claimN l)) with
  | none => .form
  | some p => if sumD l = dgN (setN l ++ kbD l (claimN l)) then .ok p (claimN l) else .sum
theorem claimN_le {l : List Nat} (h : claimN l ≠ 0) : 48 < claimN l ∧ claimN l ≤ l.length ∧ l.take 4 = [71, 89, 83, 49] ∧ claimN l = saidN l := by
  unfold claimN at h ⊢
  split
  · rename_i hc
    exact ⟨hc.2.2.1, hc.2.2.2, hc.2.1, rfl⟩
  · rename_i hc
    rw [if_neg hc] at h
    exact absurd rfl h
theorem cut_up {l : List Nat} {n : Nat} (h : 48 ≤ n) (h2 : n ≤ l.length) : l = l.take 4 ++ ((l.drop 4).take 4 ++ (setN l ++ (sumD l ++ (kbD l n ++ l.drop n)))) := by
  unfold setN sumD kbD
  have e1 : (l.drop 48).take (n - 48) ++ l.drop n = l.drop 48 := by
    have := List.take_append_drop (n - 48) (l.drop 48)
    rwa [List.drop_drop, show 48 + (n - 48) = n by omega] at this
  have e2 : (l.drop 16).take 32 ++ l.drop 48 = l.drop 16 := by
    have := List.take_append_drop 32 (l.drop 16)
    rwa [List.drop_drop] at this
  have e3 : (l.drop 8).take 8 ++ l.drop 16 = l.drop 8 := by
    have := List.take_append_drop 8 (l.drop 8)
    rwa [List.drop_drop] at this
  have e4 : (l.drop 4).take 4 ++ l.drop 8 = l.drop 4 := by
    have := List.take_append_drop 4 (l.drop 4)
    rwa [List.drop_drop] at this
  rw [e1, e2, e3, e4, List.take_append_drop]
theorem dec_ok {l : List Nat} {p : Pk} {n : Nat} (hb : IsByte l) (h : decN l = .ok p n) : Begins l p n := by
  unfold decN at h
  split at h
  · cases h
  · rename_i hc
    split at h
    · cases h
    · rename_i q hq
      split at h
      · rename_i hs
        cases h
        obtain ⟨h1, h2, h3, h4⟩ := claimN_le hc
        obtain ⟨n, hn⟩ : ∃ n, n = claimN l := ⟨_, rfl⟩
        rw [← hn] at h1 h2 h4 hq hs ⊢
        have l8 : (setN l).length = 8 := by unfold setN; rw [List.length_take, List.length_drop]; omega
        have lk : (kbD l n).length = n - 48 := by unfold kbD; rw [List.length_take, List.length_drop]; omega
        have l4 : ((l.drop 4).take 4).length = 4 := by rw [List.length_take, List.length_drop]; omega
        have b8 : IsByte (setN l) := fun y hy => hb y (List.mem_of_mem_drop (List.mem_of_mem_take hy))
        have bk : IsByte (kbD l n) := fun y hy => hb y (List.mem_of_mem_drop (List.mem_of_mem_take hy))
        have b4 : ∀ y ∈ (l.drop 4).take 4, y < 256 := fun y hy => hb y (List.mem_of_mem_drop (List.mem_of_mem_take hy))
        obtain ⟨s1, s2, s3, s4⟩ := rd_sound l8 b8 bk hq
        have e : l = pkBytes p ++ l.drop n := by
          unfold pkBytes bytesN
          have hw : wideN n 4 = (l.drop 4).take 4 := by
            rw [h4]
            unfold saidN
            exact wide_num 4 _ l4 b4
          rw [s4, s1, lk, show 48 + (n - 48) = n by omega, ← hs, ← h3, hw]
          have := cut_up (l := l) (n := n) (by omega) (by omega)
          simp only [List.append_assoc]
          exact this
        refine ⟨s2, s3, ?_, _, e⟩
        have := congrArg List.length e
        rw [List.length_append, List.length_drop] at this
        omega
      · cases h
theorem dec_begins {l : List Nat} {p : Pk} {n : Nat} (hb : IsByte l) (h : Begins l p n) : decN l = .ok p n := by
  have h0 := h
  obtain ⟨hi, ho, hn, r, e⟩ := h
  have hlen := body_len hi ho
  have hle := begins_le h0
  have e2 : l = [71, 89, 83, 49] ++ (wideN (48 + (kbN p.kind (pkBody p)).length) 4 ++ (p.set ++ (dgN (p.set ++ kbN p.kind (pkBody p)) ++ (kbN p.kind (pkBody p) ++ r)))) := by
    rw [e]
    unfold pkBytes bytesN
    simp only [List.append_assoc]
  have hk := kb_len p.kind (pkBody p)
  have hnn : n = 48 + (kbN p.kind (pkBody p)).length := by rw [hn]; unfold pkBytes; rw [bytes_len hi.set8]; omega
  obtain ⟨K, hK⟩ : ∃ K, K = kbN p.kind (pkBody p) := ⟨_, rfl⟩
  obtain ⟨q, hq⟩ := rd_some hi ho
  have h8 := hi.set8
  rw [← hK] at e2 hnn hq hk
  have hD := dgN_len (p.set ++ K)
  obtain ⟨D, hDD⟩ : ∃ D, D = dgN (p.set ++ K) := ⟨_, rfl⟩
  rw [← hDD] at e2 hD
  have hW := wideN_len 4 (48 + K.length)
  have hWn := numN_wide 4 (48 + K.length) (by omega)
  obtain ⟨W, hWW⟩ : ∃ W, W = wideN (48 + K.length) 4 := ⟨_, rfl⟩
  rw [← hWW] at e2 hW hWn
  have d4 : l.drop 4 = W ++ (p.set ++ (D ++ (K ++ r))) := by rw [e2]; rfl
  have d8 : l.drop 8 = p.set ++ (D ++ (K ++ r)) := by
    rw [show 8 = 4 + 4 by rfl, ← List.drop_drop, d4, List.drop_left' hW]
  have d16 : l.drop 16 = D ++ (K ++ r) := by
    rw [show 16 = 8 + 8 by rfl, ← List.drop_drop, d8, List.drop_left' h8]
  have d48 : l.drop 48 = K ++ r := by
    rw [show 48 = 16 + 32 by rfl, ← List.drop_drop, d16, List.drop_left' hD]
  have s1 : saidN l = n := by
    unfold saidN
    rw [d4, List.take_left' hW, hWn, hnn]
  have s2 : setN l = p.set := by unfold setN; rw [d8, List.take_left' h8]
  have s3 : sumD l = D := by unfold sumD; rw [d16, List.take_left' hD]
  have s4 : kbD l n = K := by unfold kbD; rw [d48, List.take_left' (by omega)]
  have hc : claimN l = n := by
    unfold claimN
    rw [s1, if_pos ⟨by omega, by rw [e2]; rfl, by omega, hle.1⟩]
  have hd : decN l = .ok q n := by
    unfold decN
    rw [hc, if_neg (by omega), s2, s3, s4, hq]
    simp only
    rw [if_pos hDD]
  have hbq := dec_ok hb hd
  rw [hd, (begins_one hbq h0).1]
end Go.Proofs.YtcopjbapglndgaaGreatDoor
end

section
namespace Go.Proofs.YtcopjbapglndgaaGreatDoor
open Go.ChangeShapes Go.WideShapes Go.ChangeAt Go.RowKit Go.Joins
set_option linter.unusedVariables false

set_option maxRecDepth 100000 in
theorem grow_new (n : Nat) (w : World) (h0 : 0 < n) (hn : n ≤ 1000000) :
    Calls Tryz.prog 110 #[.slice none 0 0, .int .i64 (n : Int)] w fun e w' => ∃ v, e = .returned v ∧ Acc w w' v [] := by
  obtain ⟨i0, hi, hz0, hz1, hz2⟩ := info_parts info8C
  have happ := Lib.run_append_nil_zeros (P := Tryz.prog) w 35 3 35 5 i0 (.int .u8 0) .i64 .i64 Tryz.underlying35 Tryz.underlying3 hi hz0 n h0 (by omega) (by omega) (by rw [hz2]; omega)
  generalize hcap : grownCap w n 0 5 = cap2 at happ
  have hcapge : n ≤ cap2 := by rw [← hcap]; exact grownCap_ge w _ 0 5
  have hcaple : cap2 ≤ maxLen := by rw [← hcap]; exact grownCap_le_maxLen w _ 0 5 (by unfold maxLen; omega)
  generalize hZ : (Builtin.zeroCells (Value.int .u8 0).cells n ++ Builtin.zeroCells (Value.int .u8 0).cells (cap2 - n)) = Z at happ
  have hZs : Z.size = cap2 * 1 := by rw [← hZ]; simp [size_zeroCells, Value.cells]; omega
  have hHA : Acc w (w.drew.alloc (.cells Z 5)) (.slice (some ⟨w.heap.size, 0, none⟩) 0 cap2) [] := ⟨World.ownsRow_made w.drew Z cap2 (Nat.zero_le _) hcaple hZs, fun j hj => by
    have : w.heap.size = j := by simpa [Value.ownBlock] using hj
    omega, ((Below.refl w.heap.size w).drew).alloc (Nat.le_refl _) _⟩
  have HA := Lib.hid hHA
  have hc63 : cap2 ≤ 9223372036854775807 := by unfold maxLen at hcaple; omega
  clear hcap hZ hHA hZs hz0 hz1 hz2 hi
  go_enter Tryz.func110, Tryz.ntmps110
  go_wp2_with (at_builtin; refine Lib.wpList_append_run _ rfl _ _ _ _ rfl _ _ rfl rfl _ _ happ ?_)
  go_ret
  exact ⟨_, rfl, HA.out⟩

/-- Slices of bytes, one behind the other in cells. -/
def Parts (w : World) (g : Nat) (ls : List (List Nat)) : Prop := ∀ i (h : i < ls.length), ∃ a c, w.cell? ⟨g, i, none⟩ = some (.slice a ls[i].length c) ∧ Sl w a c ls[i]
theorem Parts.below {w w' : World} {g : Nat} {ls : List (List Nat)} (h : Parts w g ls) (k : Below w.heap.size w w') : Parts w' g ls := fun i hi => by
  obtain ⟨a, c, h1, h2⟩ := h i hi
  exact ⟨a, c, (k.cell (p := ⟨g, i, none⟩) (World.block_lt_of_cell? w _ h1)).trans h1, h2.below k⟩
theorem flat_next {ls : List (List Nat)} {k : Nat} (h : k < ls.length) : (ls.take (k + 1)).flatten = (ls.take k).flatten ++ ls[k] := by
  rw [List.take_succ_eq_append_getElem h, List.flatten_append]
  simp
theorem flat_most {ls : List (List Nat)} {k : Nat} : (ls.take k).flatten.length ≤ ls.flatten.length := by
  conv => rhs; rw [← List.take_append_drop k ls, List.flatten_append, List.length_append]
  omega
set_option maxRecDepth 1000000 in
set_option maxHeartbeats 2000000 in
theorem concat_any (g : Nat) (ls : List (List Nat)) (w : World) (hp : Parts w g ls) (h0 : 0 < ls.flatten.length) (hn : ls.flatten.length ≤ 900000) (hlc : ls.length ≤ 1000) :
    Calls Tryz.prog 96 #[.slice (some ⟨g, 0, none⟩) ls.length ls.length] w fun e w' => ∃ v, e = .returned v ∧ Acc w w' v ls.flatten := by
  have HP := Lib.hid hp
  obtain ⟨N, hN⟩ : ∃ N, N = ls.flatten.length := ⟨_, rfl⟩
  have HG : Hid (Calls Tryz.prog 110 #[.slice none 0 0, .int .i64 (N : Int)] w fun e w' => ∃ v, e = .returned v ∧ Acc w w' v []) := grow_new N w (by omega) (by omega)
  have HN : Hid (ls.flatten.length = N) := hN.symm
  rw [← hN] at h0 hn
  clear hp hN
  go_enter Tryz.func96, Tryz.ntmps96
  go_wp2_with fail
  go_loopw [3, 11] (fun s3 j wr => ∃ k q : Nat, k ≤ ls.length ∧ j = .int .i64 (k : Int) ∧ s3 = .int .i64 (q : Int) ∧ Hid (q = (ls.take k).flatten.length) ∧ Hid (wr = w)) (fun _ j _ => ls.length - (intOf j).toNat)
  case atStart => exact ⟨0, 0, by omega, rfl, rfl, by show _ = _; simp, Lib.hid rfl⟩
  case round =>
    obtain ⟨k, q, hk, rfl, rfl, HQ, HW⟩ := hrel
    have hwr := HW.out
    subst wr
    by_cases hlt : k < ls.length
    · obtain ⟨a, c, hc, hs⟩ := HP.out k hlt
      have hsl := hs.lt
      have HS := Lib.hid hs
      have HNX := Lib.hid (flat_next hlt)
      have hm : q + ls[k].length ≤ N := by
        have := flat_most (ls := ls) (k := k + 1)
        rw [HNX.out, List.length_append, ← HQ.out, HN.out] at this
        exact this
      have hkz : (k : Int) < (ls.length : Int) := by omega
      have HR : Hid (q + ls[k].length = (ls.take (k + 1)).flatten.length) := by show _ = _; rw [HNX.out, List.length_append, ← HQ.out]
      obtain ⟨m, hm2⟩ : ∃ m, m = ls[k].length := ⟨_, rfl⟩
      rw [← hm2] at hc hm HR hsl
      clear hs HS HNX HQ hm2
      go_wp2_with fail
      go_roundw
      case rel => exact ⟨k + 1, q + m, by omega, by go_num, by go_num, HR, Lib.hid trivial⟩
      case measure => simp [intOf]; omega
    · obtain rfl : k = ls.length := by omega
      rw [List.take_length] at HQ
      have hqN : q = N := by rw [← HN.out]; exact HQ.out
      subst hqN
      clear HQ
      go_wp2_with fail
      (with_reducible refine HG.out.mono ?_)
      rintro e w1 ⟨v1, rfl, ha1⟩
      have HA0 : Hid (Acc w w1 v1 ((ls.take 0).flatten)) := by
        show Acc _ _ _ _
        simpa using ha1
      clear ha1 HG
      go_wp2_with fail
      go_loopw [6, 27] (fun s6 j wq => ∃ k : Nat, k ≤ ls.length ∧ j = .int .i64 (k : Int) ∧ Hid (Acc w wq s6 ((ls.take k).flatten))) (fun _ j _ => ls.length - (intOf j).toNat)
      case atStart => exact ⟨0, by omega, rfl, HA0⟩
      case round =>
        obtain ⟨k, hk, rfl, HA⟩ := hrel
        clear HA0
        by_cases hlt : k < ls.length
        · obtain ⟨a, c, hc, hs⟩ := (HP.out.below HA.out.below) k hlt
          have HS := Lib.hid hs
          have hsl := hs.lt
          have HNX := Lib.hid (flat_next hlt)
          have hkz : (k : Int) < (ls.length : Int) := by omega
          have HM : Hid ((ls.take k).flatten.length + ls[k].length ≤ 1000000) := by
            have := flat_most (ls := ls) (k := k + 1)
            rw [HNX.out, List.length_append, HN.out] at this
            show _ ≤ _
            omega
          obtain ⟨m, hm2⟩ : ∃ m, m = ls[k].length := ⟨_, rfl⟩
          have HML : Hid (ls[k].length = m) := hm2.symm
          rw [← hm2] at hc hsl
          clear hs hm2
          go_wp2_with (at_builtin; refine wpList_acc _ rfl _ _ rfl u6 ((ls.take k).flatten) rfl HA.out a c m ls[k] rfl HML.out HS.out HM.out ?_; intro v2 w2 HA2)
          have HA3 : Hid (Acc w w2 v2 ((ls.take (k + 1)).flatten)) := by show Acc _ _ _ _; rw [HNX.out]; exact HA2.out
          clear HA2 HA HS HNX
          go_roundw
          case rel => exact ⟨k + 1, by omega, by go_num, HA3⟩
          case measure => simp [intOf]; omega
        · obtain rfl : k = ls.length := by omega
          rw [List.take_length] at HA
          go_wp2_with fail
          go_ret
          exact ⟨_, rfl, HA.out⟩

def z32 : Array Value := #[.int .u8 0, .int .u8 0, .int .u8 0, .int .u8 0, .int .u8 0, .int .u8 0, .int .u8 0, .int .u8 0, .int .u8 0, .int .u8 0, .int .u8 0, .int .u8 0, .int .u8 0, .int .u8 0, .int .u8 0, .int .u8 0, .int .u8 0, .int .u8 0, .int .u8 0, .int .u8 0, .int .u8 0, .int .u8 0, .int .u8 0, .int .u8 0, .int .u8 0, .int .u8 0, .int .u8 0, .int .u8 0, .int .u8 0, .int .u8 0, .int .u8 0, .int .u8 0]
set_option maxRecDepth 1000000 in
set_option maxHeartbeats 2000000 in
/-- packet.check: the digest of a name and of what is told. -/
theorem check_any (set : List Nat) (a : Option Addr) (c : Nat) (l : List Nat) (w : World) (h8 : set.length = 8) (hsb : IsByte set) (hs : Sl w a c l) (hl : l.length ≤ 800000) (ht : Tabs w) :
    Calls Tryz.prog 77 #[.agg (rowArr 8 (vOf set)), .slice a l.length c] w fun e w' => e = .returned (.agg (rowArr 32 (vOf (dgN (set ++ l))))) ∧ Below w.heap.size w w' := by
  have HBX : Hid ((w.alloc (.cells (rowArr 8 (vOf set)) 40)).heap[w.heap.size]? = some (.cells (rowArr 8 (vOf set)) 40 (0, 0))) := heap_alloc_last w _
  have HB0 : Hid (Below w.heap.size w (w.alloc (.cells (rowArr 8 (vOf set)) 40))) := (Below.refl _ _).alloc (Nat.le_refl _) _
  have HS := Lib.hid hs
  have HT := Lib.hid ht
  have hlm := hs.lt
  have hcm : c ≤ 9223372036854775807 := by have := hs.most; unfold maxLen at this; omega
  obtain ⟨arr, harr⟩ : ∃ arr, arr = rowArr 8 (vOf set) := ⟨_, rfl⟩
  rw [← harr] at HBX HB0 ⊢
  have HAR := Lib.hid harr
  have HSB := Lib.hid hsb
  have H8 := Lib.hid h8
  obtain ⟨D, hD⟩ : ∃ D, D = dgN (set ++ l) := ⟨_, rfl⟩
  rw [← hD]
  have HDE := Lib.hid hD
  clear hs harr ht hsb h8 hD
  go_enter Tryz.func77, Tryz.ntmps77
  go_upto_region 1 with fail
  change Code.wp _ _ _ _ ((w.alloc (.cells arr 40)).alloc (.cells z32 55))
  obtain ⟨w0, hw0⟩ : ∃ w0, w0 = w.alloc (.cells arr 40) := ⟨_, rfl⟩
  rw [← hw0] at HBX HB0 ⊢
  have hs0 : w0.heap.size = w.heap.size + 1 := by rw [hw0]; simp
  have HCX : Hid ((w0.alloc (.cells z32 55)).heap[w0.heap.size]? = some (.cells z32 55 (0, 0))) := heap_alloc_last w0 _
  have HB01 : Hid (Below w0.heap.size w0 (w0.alloc (.cells z32 55))) := (Below.refl _ _).alloc (Nat.le_refl _) _
  obtain ⟨w1, hw1⟩ : ∃ w1, w1 = w0.alloc (.cells z32 55) := ⟨_, rfl⟩
  rw [← hw1] at HCX HB01 ⊢
  obtain ⟨B, hB⟩ : ∃ B, B = w.heap.size := ⟨_, rfl⟩
  rw [hs0] at HCX
  rw [← hB] at HBX HCX ⊢
  have hwB : w.heap.size ≤ B := by omega
  have HB1 : Hid (Below w.heap.size w w1) := HB0.out.trans (HB01.out.mono (by omega))
  have HBX1 : Hid (w1.heap[B]? = some (.cells (rowArr 8 (vOf set)) 40 (0, 0))) := by
    have := (HB01.out.block B (by omega)).trans HBX.out
    rw [HAR.out] at this
    exact this
  have hC1 : B + 1 < w1.heap.size := (Array.getElem?_eq_some_iff.1 HCX.out).1
  have HT1 := Lib.hid (HT.out.below HB1.out)
  clear hw0 hw1 hB hs0 HB0 HB01 HBX HAR HT
  have HSET : Hid (Sl w1 (some ⟨B, 0, none⟩) 8 set) := by
    refine ⟨HSB.out, by rw [H8.out]; exact Nat.le_refl _, by unfold maxLen; omega, fun e => (by cases e), .inr ⟨B, 0, rfl, fun i hi => ?_⟩⟩
    have hi8 : i < 8 := by rw [H8.out] at hi; exact hi
    rw [cell_of_block HBX1.out, ← vOf_eq set i hi, Nat.zero_add]
    simp [rowArr, hi8]
  have HS1 := Lib.hid (HS.out.below HB1.out)
  have HPB : Hid (∀ ty : TypeId, Below w1.heap.size w1 (w1.alloc (.cells #[.slice (some ⟨B, 0, none⟩) 8 8, .slice a l.length c] ty))) := fun ty => (Below.refl _ _).alloc (Nat.le_refl _) _
  have HPH : Hid (∀ ty : TypeId, (w1.alloc (.cells #[.slice (some ⟨B, 0, none⟩) 8 8, .slice a l.length c] ty)).heap[w1.heap.size]? = some (.cells #[.slice (some ⟨B, 0, none⟩) 8 8, .slice a l.length c] ty (0, 0))) := fun ty => heap_alloc_last w1 _
  have HPP : Hid (∀ ty : TypeId, Parts (w1.alloc (.cells #[.slice (some ⟨B, 0, none⟩) 8 8, .slice a l.length c] ty)) w1.heap.size [set, l]) := fun ty i hi => by
    have e : i = 0 ∨ i = 1 := by have : i < 2 := hi; omega
    rcases e with rfl | rfl
    · exact ⟨some ⟨B, 0, none⟩, 8, by rw [cell_of_block (HPH.out ty)]; show some (Value.slice _ 8 8) = some (Value.slice _ set.length 8); rw [H8.out], HSET.out.below (HPB.out ty)⟩
    · exact ⟨a, c, by rw [cell_of_block (HPH.out ty)]; rfl, HS1.out.below (HPB.out ty)⟩
  have HCC : Hid (∀ ty : TypeId, Calls Tryz.prog 96 #[.slice (some ⟨w1.heap.size, 0, none⟩) 2 2] (w1.alloc (.cells #[.slice (some ⟨B, 0, none⟩) 8 8, .slice a l.length c] ty)) fun e w' => ∃ v, e = .returned v ∧ Acc (w1.alloc (.cells #[.slice (some ⟨B, 0, none⟩) 8 8, .slice a l.length c] ty)) w' v (set ++ l)) := fun ty => by
    have h := concat_any w1.heap.size [set, l] _ (HPP.out ty) (by simp [H8.out]; omega) (by simp [H8.out]; omega) (by simp)
    simpa using h
  clear HPH HPP
  obtain ⟨T, hT⟩ : ∃ T, T = set ++ l := ⟨_, rfl⟩
  have hTb : IsByte T := by
    rw [hT]
    intro x hx
    rcases List.mem_append.1 hx with h | h
    · exact HSB.out x h
    · exact HS1.out.byte x h
  have hTl : T.length ≤ 1000000 := by rw [hT, List.length_append, H8.out]; omega
  rw [← hT] at HCC
  have HDT : Hid (D = dgN T) := by show _ = _; rw [hT]; exact HDE.out
  clear hT HDE HSB HSET HS1 HS
  go_wp2_with fail
  (with_reducible refine (HCC.out _).mono ?_)
  rintro e w2 ⟨v, rfl, ha⟩
  obtain ⟨a2, c2, rfl, hs2, _⟩ := ha.own.sl hTb
  have HB2 : Hid (Below w1.heap.size w1 w2) := (HPB.out _).trans (ha.below.mono (HPB.out _).size)
  have HDG := Lib.hid (digest_sl a2 c2 T w2 hs2 hTl (HT1.out.below HB2.out))
  rw [← HDT.out] at HDG
  clear ha hs2 HCC HPB HT1 HDT
  go_wp2_with fail
  (with_reducible refine HDG.out.mono ?_)
  rintro e w3 ⟨rfl, b3⟩
  have HB3 : Hid (Below w1.heap.size w1 w3) := HB2.out.trans (b3.mono HB2.out.size)
  have HC3 : Hid (w3.heap[B + 1]? = some (.cells z32 55 (0, 0))) := (HB3.out.block _ hC1).trans HCX.out
  clear HDG b3 HB2 HCX
  have h13 := HB3.out.size
  go_wp2_with (refine wpList_store_arr rfl 55 _ _ rfl (B + 1) (rowArr 32 (vOf D)) rfl rfl 55 _ HC3.out (by rw [rowArr_size]; kernel_rfl) (by rw [rowArr_size]; rfl) (oneCell_v D 32) ?_; intro w4 HC4 hf4)
  have HB4 : Hid (Below w.heap.size w w4) := HB1.out.trans ((HB3.out.mono HB1.out.size).trans (hf4.out.below (by have := HB1.out.size; omega) fun k hk e => by omega))
  exact bodyPost_ret (v := .agg (rowArr 32 (vOf D))) (results_cell_row rfl _ _ (B + 1) 55 (rowArr 32 (vOf D)) (0, 0) _ rfl HC4.out Tryz.underlying55 rfl (by rw [rowArr_size]; kernel_rfl)) rfl ⟨rfl, HB4.out⟩
end Go.Proofs.YtcopjbapglndgaaGreatDoor
end

section
namespace Go.Proofs.YtcopjbapglndgaaGreatDoor
open Go.ChangeShapes Go.WideShapes Go.ChangeAt Go.RowKit Go.Joins
set_option linter.unusedVariables false

/-- The first n bytes, and what is behind them. -/
theorem Sl.front {w : World} {a : Option Addr} {c : Nat} {l : List Nat} (h : Sl w a c l) (n : Nat) : Sl w a c (l.take n) := by
  refine ⟨fun x hx => h.byte x (List.mem_of_mem_take hx), by have := h.len; rw [List.length_take]; omega, h.most, fun e => by rw [(h.none e).1]; exact ⟨List.take_nil, (h.none e).2⟩, ?_⟩
  rcases h.here with rfl | ⟨b, off, e, hb⟩
  · exact .inl List.take_nil
  · refine .inr ⟨b, off, e, fun i hi => ?_⟩
    rw [hb i (by rw [List.length_take] at hi; omega), List.getElem_take]
theorem Sl.back {w : World} {b off c : Nat} {l : List Nat} (h : Sl w (Option.some ⟨b, off, Option.none⟩) c l) (n : Nat) (hn : n ≤ l.length) : Sl w (Option.some ⟨b, off + n, Option.none⟩) (c - n) (l.drop n) := by
  refine ⟨fun x hx => h.byte x (List.mem_of_mem_drop hx), by have := h.len; rw [List.length_drop]; omega, by have := h.most; omega, fun e => (by cases e), ?_⟩
  rcases h.here with rfl | ⟨b', off', e, hb⟩
  · exact .inl List.drop_nil
  · cases e
    refine .inr ⟨b, off + n, rfl, fun i hi => ?_⟩
    rw [List.length_drop] at hi
    rw [show off + n + i = off + (n + i) by omega, hb (n + i) (by omega), List.getElem_drop]

theorem elem8 : Tryz.prog.elem 35 = 5 := by kernel_rfl
theorem und8 : Tryz.prog.underlying 35 = some (.slice (Tryz.prog.elem 35)) := by rw [elem8]; exact Tryz.underlying35
theorem cut_front {w : World} {a : Option Addr} {c : Nat} {l : List Nat} (h : Sl w a c l) (N : Nat) (hN : N ≤ l.length) (W : World) :
    (Instr.slice 35 (.slice a l.length c) none (some (.int .i64 (N : Int))) none).run Tryz.prog W = .ok (.slice a N c) W := by
  have hc := h.len
  rw [run_slice_h W 35 a l.length c und8 .i64 _ (by omega) (by omega), elem8, Tryz.sizeOf5]
  cases a with
  | none => simp [Result.andThen, sliced]
  | some ad => simp [Result.andThen, sliced, Addr.add]
theorem cut_back {w : World} {a : Option Addr} {c : Nat} {l : List Nat} (h : Sl w a c l) (N : Nat) (hN : N ≤ l.length) :
    ∃ a2, (∀ W, (Instr.slice 35 (.slice a l.length c) (some (.int .i64 (N : Int))) none none).run Tryz.prog W = .ok (.slice a2 (l.length - N) (c - N)) W) ∧ Sl w a2 (c - N) (l.drop N) ∧ ∀ p, a2 = some p → l.drop N ≠ [] → ∃ p0, a = some p0 ∧ p.block = p0.block := by
  have hc := h.len
  have hm := h.most
  have hr : ∀ W, (Instr.slice 35 (.slice a l.length c) (some (.int .i64 (N : Int))) none none).run Tryz.prog W = .ok (sliced a N l.length c 1) W := fun W => by
    rw [run_slice_l W 35 a l.length c und8 .i64 _ (by omega) (by omega), elem8, Tryz.sizeOf5]
    simp [Result.andThen]
  unfold sliced at hr
  rw [Nat.mul_one] at hr
  refine ⟨_, hr, ?_, ?_⟩
  · by_cases e : c = N
    · rw [if_pos e]
      have hd : l.drop N = [] := List.drop_eq_nil_of_le (by omega)
      rw [hd]
      exact ⟨by simp [IsByte], by simp, by omega, fun e' => ⟨rfl, by omega⟩, .inl rfl⟩
    · rw [if_neg e]
      by_cases hd : l.drop N = []
      · rw [hd]
        refine ⟨by simp [IsByte], by simp, by omega, fun e' => ?_, .inl rfl⟩
        cases a with
        | none => exact absurd (by have := (h.none rfl); have h2 := this.2; omega) e
        | some ad => simp at e'
      · have hl : N < l.length := by
          rcases Nat.lt_or_ge N l.length with h | h
          · exact h
          · exact absurd (List.drop_eq_nil_of_le h) hd
        obtain ⟨b, off, ea, hb⟩ := h.some hl
        subst ea
        have := h.back N hN
        have e2 : (⟨b, off, none⟩ : Addr).add N = ⟨b, off + N, none⟩ := by
          by_cases n0 : N = 0
          · subst n0; simp [Addr.add]
          · simp [Addr.add, n0]
        simp only [Option.map_some, e2]
        exact this
  · intro p hp hd
    have hl : N < l.length := by
      rcases Nat.lt_or_ge N l.length with h | h
      · exact h
      · exact absurd (List.drop_eq_nil_of_le h) hd
    obtain ⟨b, off, ea, hb⟩ := h.some hl
    subst ea
    rw [if_neg (by omega)] at hp
    have e2 : (⟨b, off, none⟩ : Addr).add N = ⟨b, off + N, none⟩ := by
      by_cases n0 : N = 0
      · subst n0; simp [Addr.add]
      · simp [Addr.add, n0]
    simp only [Option.map_some, e2] at hp
    cases hp
    exact ⟨_, rfl, rfl⟩

end Go.Proofs.YtcopjbapglndgaaGreatDoor
end

section
namespace Go.Proofs.YtcopjbapglndgaaGreatDoor
open Go.ChangeShapes Go.WideShapes Go.ChangeAt Go.RowKit Go.Joins
set_option linter.unusedVariables false

theorem takeI_len {s : Option (List Nat)} {n : Int} {x r : List Nat} (h : takeI s n = some (x, r)) : (x.length : Int) = n := by
  unfold takeI at h
  cases s with
  | none => cases h
  | some l =>
    simp only [Option.bind_some] at h
    split at h
    · rename_i hc
      cases h
      rw [List.length_take]
      omega
    · cases h
theorem ansR_len {s : Option (List Nat)} {n : Int} : (ansR s n).length = 0 ∨ ((ansR s n).length : Int) = n := by
  unfold ansR
  cases h : takeI s n with
  | none => exact .inl rfl
  | some p => exact .inr (takeI_len (r := p.2) (by rw [h]; rfl))

/-! A number. -/

set_option maxRecDepth 100000 in
theorem ofIntC (n : Nat) (h : n < 2 ^ 64) : (BitVec.ofInt 64 (n : Int)).toNat = n := by
  rw [BitVec.toNat_ofInt]
  omega
set_option maxRecDepth 100000 in
theorem or_byte (q x : Nat) (hx : x < 256) (hq : q * 256 + x < 281474976710656) : bits .or .i64 ((q : Int) * 256) (x : Int) = ((q * 256 + x : Nat) : Int) := by
  have e : ((q : Int) * 256) = ((q * 256 : Nat) : Int) := by omega
  rw [e]
  show IntKind.i64.wrap ((BitVec.ofInt 64 ((q * 256 : Nat) : Int) ||| BitVec.ofInt 64 (x : Int)).toNat : Int) = _
  rw [BitVec.toNat_or, ofIntC _ (by omega), ofIntC _ (by omega)]
  have h : q * 256 ||| x = q * 256 + x := by
    have := Nat.two_pow_add_eq_or_of_lt (i := 8) (b := x) (show x < 2 ^ 8 by omega) q
    simp only [Nat.reducePow] at this
    rw [Nat.mul_comm q 256]
    exact this.symm
  rw [h, IntKind.wrap_i64]
  omega

/-! Text and bytes. -/

theorem gT_eq (s : Option (List Nat)) : ansT s = ansR (restN s 1) (ansN s 1 : Nat) ∧ restT s = restR (restN s 1) (ansN s 1 : Nat) := by
  unfold ansT restT gT ansR restR restN ansN
  cases h : gN s 1 with
  | none => simp [takeI]
  | some p => simp
/-! Left, Bad, Done. -/

/-! A new one. -/

/-! Of nothing. -/

end Go.Proofs.YtcopjbapglndgaaGreatDoor
end

section
namespace Go.Proofs.YtcopjbapglndgaaGreatDoor
open Go.ChangeShapes Go.WideShapes Go.ChangeAt Go.RowKit Go.Joins
set_option linter.unusedVariables false

/-- b[i:j]. -/
theorem cut_mid {w : World} {b off c : Nat} {l : List Nat} (h : Sl w (some ⟨b, off, none⟩) c l) (i j : Nat) (hij : i ≤ j) (hj : j ≤ l.length) (hi : i < l.length) (I J : Int) (hI : I = (i : Int)) (hJ : J = (j : Int)) :
    (∀ W, (Instr.slice 35 (.slice (some ⟨b, off, none⟩) l.length c) (some (.int .i64 I)) (some (.int .i64 J)) none).run Tryz.prog W = .ok (.slice (some ⟨b, off + i, none⟩) (j - i) (c - i)) W) ∧ Sl w (some ⟨b, off + i, none⟩) (c - i) ((l.drop i).take (j - i)) := by
  subst hI hJ
  have hc := h.len
  refine ⟨fun W => ?_, (h.back i (by omega)).front (j - i)⟩
  rw [run_slice_lh W 35 (some ⟨b, off, none⟩) l.length c und8 .i64 .i64 _ _ (by omega) (by omega) (by omega), elem8, Tryz.sizeOf5]
  have e2 : (⟨b, off, none⟩ : Addr).add i = ⟨b, off + i, none⟩ := by
    by_cases n0 : i = 0
    · subst n0; simp [Addr.add]
    · simp [Addr.add, n0]
  simp [Result.andThen, sliced, show ¬ (c = i) by omega, e2]
theorem mid_len {l : List Nat} {i j : Nat} (hj : j ≤ l.length) : ((l.drop i).take (j - i)).length = j - i := by rw [List.length_take, List.length_drop]; omega

end Go.Proofs.YtcopjbapglndgaaGreatDoor
end

section
namespace Go.Proofs.YtcopjbapglndgaaGreatDoor
open Go.ChangeShapes Go.WideShapes Go.ChangeAt Go.RowKit Go.Joins
set_option linter.unusedVariables false

theorem info8s : (Tryz.prog.info? 5).map (·.size) = some 1 := by kernel_rfl
/-- Bytes copied into a row. -/
theorem copy_any (w : World) (ty : TypeId) (g o N k k' n dc : Nat) (F F' : Nat → Value) (t : TypeId) (a : Option Addr) (c : Nat) (x : List Nat) (hg : Row w g t N k F) (hs : Sl w a c x) (hx : x.length ≤ n) (ho : o + n ≤ N) (hk : k' ≤ N)
    (hf : ∀ j, j < k' → (o ≤ j ∧ j < o + x.length ∧ F' j = vOf x (j - o)) ∨ ((j < o ∨ o + x.length ≤ j) ∧ j < k ∧ F' j = F j)) :
    ∃ w', (Builtin.copy_ #[35, 35] ty #[.slice (some ⟨g, o, none⟩) n dc, .slice a x.length c]).run Tryz.prog w = .ok (goInt x.length) w' ∧ Row w' g t N k' F' ∧ Fr (fun j => j = g) w w' := by
  by_cases h0 : x = []
  · subst h0
    refine ⟨w, run_copy_none w 35 35 ty 5 _ _ _ _ _ _ Tryz.underlying35 info8s (by simp), ?_, Fr.refl _ _⟩
    obtain ⟨cs, h1, h2, h3⟩ := hg
    refine ⟨cs, h1, h2, fun j hj => ?_⟩
    rcases hf j hj with ⟨h4, h5, _⟩ | ⟨_, h4, h5⟩
    · simp at h5
      omega
    · rw [h3 j h4, h5]
  · obtain ⟨b, off, rfl, hb⟩ := hs.some (k := 0) (List.length_pos_iff.2 h0)
    obtain ⟨cs, h1, h2, h3⟩ := hg
    have hr := run_copy_row (P := Tryz.prog) w 35 35 ty 5 g o n dc ⟨b, off, none⟩ x.length c cs t (x.map byteV) Tryz.underlying35 info8s h1 (by rw [List.length_map]; exact (Nat.min_eq_left hx).symm) (fun j v hj => by
      rw [List.getElem?_map] at hj
      obtain ⟨y, hy, rfl⟩ := Option.map_eq_some_iff.1 hj
      obtain ⟨hjl, rfl⟩ := List.getElem?_eq_some_iff.1 hy
      have := hb j hjl
      by_cases j0 : j = 0
      · subst j0; simpa [Addr.add, byteV] using this
      · simpa [Addr.add, j0, byteV] using this) (by rw [List.length_map, h2]; omega) (fun v hv => by obtain ⟨y, _, rfl⟩ := List.mem_map.1 hv; rfl)
    rw [List.length_map] at hr
    refine ⟨_, hr, ⟨_, setRow_heap _ _ _ _ _ _ h1, ?_, fun j hj => ?_⟩, Fr.setRow (X := fun j => j = g) (Fr.refl _ w) (fun _ => rfl) _⟩
    · have : cs.toList.length = N := by rw [Array.length_toList]; exact h2
      simp only [List.size_toArray, List.length_append, List.length_take, List.length_map, List.length_drop, this]
      omega
    · have hcl : cs.toList.length = N := by rw [Array.length_toList]; exact h2
      have htl : (cs.toList.take o).length = o := by rw [List.length_take, hcl]; omega
      rw [List.getElem?_toArray]
      rcases hf j hj with ⟨h4, h5, h6⟩ | ⟨h4, h5, h6⟩
      · rw [List.getElem?_append_left (by rw [List.length_append, htl, List.length_map]; omega), List.getElem?_append_right (by rw [htl]; exact h4), htl, List.getElem?_map, List.getElem?_eq_getElem (by omega), h6, vOf_eq x (j - o) (by omega)]
        rfl
      · rw [h6, ← h3 j h5]
        rcases h4 with h4 | h4
        · rw [List.getElem?_append_left (by rw [List.length_append, htl]; omega), List.getElem?_append_left (by rw [htl]; exact h4), List.getElem?_take, if_pos h4]
          simp
        · rw [List.getElem?_append_right (by rw [List.length_append, htl, List.length_map]; exact h4), List.length_append, htl, List.length_map, List.getElem?_drop, show o + x.length + (j - (o + x.length)) = j by omega]
          simp
/-- The same as a step where the order is open. -/
theorem wp_copyB {o : Oper} {a : Act} {K : Act → World → Prop} {Q : Exit → Act → World → Prop} (w : World) (d s : Operand)
    (hop : o.op = .call { callee := .builtin .copy, args := #[d, s], argTypes := #[35, 35] })
    (g off N k k' n dc : Nat) (F F' : Nat → Value) (t : TypeId) (hd : a.eval d = .slice (some ⟨g, off, none⟩) n dc) (sa : Option Addr) (sc q : Nat) (x : List Nat) (hsv : a.eval s = .slice sa q sc) (hq : x.length = q)
    (hg : Row w g t N k F) (hs : Sl w sa sc x) (hx : x.length ≤ n) (ho : off + n ≤ N) (hk : k' ≤ N)
    (hf : ∀ j, j < k' → (off ≤ j ∧ j < off + x.length ∧ F' j = vOf x (j - off)) ∨ ((j < off ∨ off + x.length ≤ j) ∧ j < k ∧ F' j = F j))
    (h : ∀ w', Hid (Row w' g t N k' F') → Hid (Fr (fun j => j = g) w w') → K (a.put o.dst (goInt q)) w') : o.wp Tryz.prog a w K Q := by
  subst hq
  obtain ⟨w', hr, h2, h3⟩ := copy_any w o.type g off N k k' n dc F F' t sa sc x hg hs hx ho hk hf
  unfold Oper.wp execOp
  simp only [hop, resolve, invoke, builtin, Sem.run_bind, Sem.run_pure, Result.andThen_ok, List.map_toArray, List.map_cons, List.map_nil, hd, hsv, hr]
  exact h w' h2 h3

/-! Slices, made. -/

theorem infoSm : (Tryz.prog.info? 64).map (fun i => (i.zero.isSome, i.size, i.bytes)) = some (true, 34, 48) := by kernel_rfl
theorem make_sms (n : Nat) (hn : n ≤ 1000000) (w : World) : ∃ cs : Array Value, cs.size = 34 * n ∧ (Instr.makeSlice 27 (.int .i64 (n : Int)) (.int .i64 (n : Int))).run Tryz.prog w = .ok (.slice (some ⟨w.heap.size, 0, none⟩) n n) (w.alloc (.cells cs 64)) := by
  obtain ⟨i, hi, hzz⟩ := Option.map_eq_some_iff.1 infoSm
  simp only [Prod.mk.injEq] at hzz
  obtain ⟨hz, hs, hb⟩ := hzz
  obtain ⟨z, hz⟩ := Option.isSome_iff_exists.1 hz
  have hr := run_make (P := Tryz.prog) w 27 64 i z Tryz.underlying27 hi hz .i64 .i64 (n : Int) (n : Int) (by omega) (Int.le_refl _) (by rw [hb]; omega) (by omega)
  refine ⟨_, ?_, by simpa using hr⟩
  rw [hs]
  simp [size_madeCells]
  omega

/-- What the cells of slices hold. -/
def smF (m : List Nat) (j : Nat) : Value := smV (rdSm (m.drop (38 * (j / 34)))) (j % 34)
theorem smF_0 (m : List Nat) (k : Nat) : smF m (34 * k) = .int .i64 ((rdSm (m.drop (38 * k))).n) := by
  unfold smF
  rw [show 34 * k / 34 = k by omega, show 34 * k % 34 = 0 by omega]
  rfl
theorem smF_1 (m : List Nat) (k : Nat) : smF m (34 * k + 1) = .int .u32 (((rdSm (m.drop (38 * k))).crc : Nat) : Int) := by
  unfold smF
  rw [show (34 * k + 1) / 34 = k by omega, show (34 * k + 1) % 34 = 1 by omega]
  rfl
theorem smF_2 (m : List Nat) (k j : Nat) (h : j < 32) : smF m (34 * k + 2 + j) = vOf (rdSm (m.drop (38 * k))).dg j := by
  unfold smF
  rw [show (34 * k + 2 + j) / 34 = k by omega, show (34 * k + 2 + j) % 34 = 2 + j by omega]
  unfold smV
  rw [if_neg (by omega), if_neg (by omega), show 2 + j - 2 = j by omega]
/-- Cells that hold sums are sums. -/
theorem sms_of_row {w : World} {S c : Nat} {m : List Nat} (h : Row w S 64 (34 * c) (34 * c) (smF m)) (hm : 38 * c ≤ m.length) (hb : ∀ y ∈ m, y < 256) (hc : c ≤ 1000000) : Sms w (some ⟨S, 0, none⟩) c (rdSums c m) := by
  refine ⟨fun x hx => (((rdSums_flat c m hm hb).2 x hx).1), by rw [rdSums_len]; exact Nat.le_refl _, by unfold maxLen; omega, .inr ⟨S, 0, rfl, h.lt, fun i hi => ?_⟩⟩
  rw [rdSums_len] at hi
  rw [rdSums_get m hi, Nat.zero_add, Nat.mul_comm]
  refine ⟨?_, ?_, fun j hj => ?_⟩
  · rw [h.cell (34 * i) (by omega), smF_0]
  · rw [h.cell (34 * i + 1) (by omega), smF_1]
  · have hj32 : j < 32 := by
      have : ((rdSm (m.drop (38 * i))).dg).length ≤ 32 := by unfold rdSm; simp only [List.length_take]; omega
      omega
    rw [h.cell (34 * i + 2 + j) (by omega), smF_2 m i j hj32, vOf_eq _ _ hj]
end Go.Proofs.YtcopjbapglndgaaGreatDoor
end
