/-
  Package cut, plainly: files that come in; what is wrong with them; how many slices, and which; the set that is made, and that it is formed.
  Law 16's awake and Few; Count; path.Right.
  Law 16's Wrong: what is wrong with files, as the document says.
  Package cut's has and fault: what is wrong with files.
  Package cut's fault: what is wrong with files, as the document says.
-/
import Derived.Test.YtcopjbapglndgaaGreatDoorMr17
section
namespace Go.Proofs.YtcopjbapglndgaaGreatDoor
open Go.ChangeShapes Go.WideShapes Go.ChangeAt Go.RowKit Go.Joins
set_option linter.unusedVariables false

/-- A file that comes in, and where its bytes lie. -/
structure Inp where
  name : List Nat
  b : List Nat
  a : Option Addr
  c : Nat
def zInp : Inp := ⟨[], [], none, 0⟩
def inV (x : Inp) (j : Nat) : Value := if j = 0 then .string (strOf x.name) else .slice x.a x.b.length x.c
structure Inps (w : World) (a : Option Addr) (cap : Nat) (L : List Inp) : Prop where
  byte : ∀ x ∈ L, IsByte x.name ∧ x.name.length ≤ 140737488355328 ∧ x.b.length ≤ 140737488355328
  len : L.length ≤ cap
  most : cap ≤ maxLen
  here : L = [] ∨ ∃ b off, a = some ⟨b, off, none⟩ ∧ b < w.heap.size ∧ ∀ i (h : i < L.length) j, j < 2 → w.cell? ⟨b, off + i * 2 + j, none⟩ = some (inV L[i] j)
  sl : ∀ x ∈ L, Sl w x.a x.c x.b
theorem Inps.below {w w' : World} {a : Option Addr} {cap : Nat} {L : List Inp} (h : Inps w a cap L) (k : Below w.heap.size w w') : Inps w' a cap L :=
  ⟨h.byte, h.len, h.most, by
    rcases h.here with e | ⟨b, off, e, hb, hc⟩
    · exact .inl e
    · exact .inr ⟨b, off, e, Nat.lt_of_lt_of_le hb k.size, fun i hi j hj => (k.cell (p := ⟨b, off + i * 2 + j, none⟩) hb).trans (hc i hi j hj)⟩, fun x hx => (h.sl x hx).below k⟩
theorem inps_one {w : World} {a : Option Addr} {cap : Nat} {L : List Inp} (h : Inps w a cap L) {i : Nat} (hi : i < L.length) : ∃ b off, a = some ⟨b, off, none⟩ ∧ b < w.heap.size ∧ ∀ j, j < 2 → w.cell? ⟨b, off + i * 2 + j, none⟩ = some (inV L[i] j) := by
  rcases h.here with rfl | ⟨b, off, e, hb, hc⟩
  · simp at hi
  · exact ⟨b, off, e, hb, hc i hi⟩
theorem Inps.lt {w : World} {a : Option Addr} {cap : Nat} {L : List Inp} (h : Inps w a cap L) : L.length ≤ 9223372036854775807 := by
  have h1 := h.len; have h2 := h.most; unfold maxLen at h2; omega
theorem Inps.take {w : World} {a : Option Addr} {cap : Nat} {L : List Inp} (h : Inps w a cap L) (k : Nat) (hk : k ≤ L.length) : Inps w a cap (L.take k) := by
  refine ⟨fun x hx => h.byte x (List.mem_of_mem_take hx), by rw [List.length_take]; have := h.len; omega, h.most, ?_, fun x hx => h.sl x (List.mem_of_mem_take hx)⟩
  rcases h.here with rfl | ⟨b, off, e, hb, hc⟩
  · exact .inl (by simp)
  · refine .inr ⟨b, off, e, hb, fun i hi j hj => ?_⟩
    rw [List.length_take] at hi
    rw [List.getElem_take]
    exact hc i (by omega) j hj
theorem getI {L : List Inp} {k : Nat} (h : k < L.length) : L.getD k zInp = L[k] := by simp [List.getD, h]

/-- How many slices the first k files have. -/
def cntOf (L : List Inp) (s : Int) : Nat → Nat
  | 0 => 0
  | k + 1 => cntOf L s k + cntN (L.getD k zInp).b.length s
/-- How many bytes the first k files have, and their names. -/
def bytesOf (L : List Inp) : Nat → Nat
  | 0 => 0
  | k + 1 => bytesOf L k + (L.getD k zInp).b.length + (L.getD k zInp).name.length
def FewI (L : List Inp) : Prop := ∀ k, k < L.length → k < 12 ∧ bytesOf L (k + 1) ≤ 30000
theorem bytesOf_mono (L : List Inp) : ∀ {j k : Nat}, j ≤ k → bytesOf L j ≤ bytesOf L k
  | j, 0, h => by obtain rfl : j = 0 := by omega
                  exact Nat.le_refl _
  | j, k + 1, h => by
    by_cases e : j = k + 1
    · rw [e]; exact Nat.le_refl _
    · have := bytesOf_mono L (j := j) (k := k) (by omega)
      show bytesOf L j ≤ bytesOf L k + _ + _
      omega
theorem cntOf_le (L : List Inp) (s : Int) : ∀ k, cntOf L s k ≤ bytesOf L k
  | 0 => Nat.le_refl _
  | k + 1 => by
    have h1 := cntOf_le L s k
    have h2 := cntN_le (L.getD k zInp).b.length s
    show cntOf L s k + _ ≤ bytesOf L k + _ + _
    omega
theorem cntOf_mono (L : List Inp) (s : Int) : ∀ {j k : Nat}, j ≤ k → cntOf L s j ≤ cntOf L s k
  | j, 0, h => by obtain rfl : j = 0 := by omega
                  exact Nat.le_refl _
  | j, k + 1, h => by
    by_cases e : j = k + 1
    · rw [e]; exact Nat.le_refl _
    · have := cntOf_mono L s (j := j) (k := k) (by omega)
      show cntOf L s j ≤ cntOf L s k + _
      omega
theorem FewI.len {L : List Inp} (h : FewI L) : L.length ≤ 12 := by
  by_cases h0 : L.length = 0
  · omega
  · have := (h (L.length - 1) (by omega)).1; omega
theorem FewI.bytes {L : List Inp} (h : FewI L) {k : Nat} (hk : k ≤ L.length) : bytesOf L k ≤ 30000 := by
  by_cases h0 : k = 0
  · subst h0; show 0 ≤ 30000; omega
  · have := (h (k - 1) (by omega)).2
    rwa [show k - 1 + 1 = k by omega] at this
theorem FewI.one {L : List Inp} (h : FewI L) {k : Nat} (hk : k < L.length) : (L.getD k zInp).b.length ≤ 30000 ∧ (L.getD k zInp).name.length ≤ 30000 := by
  have h1 := h.bytes (k := k + 1) (by omega)
  have h2 : bytesOf L (k + 1) = bytesOf L k + (L.getD k zInp).b.length + (L.getD k zInp).name.length := rfl
  omega
theorem FewI.cnt {L : List Inp} (h : FewI L) (s : Int) {k : Nat} (hk : k ≤ L.length) : cntOf L s k ≤ 30000 := Nat.le_trans (cntOf_le L s k) (h.bytes hk)

/-! What is wrong. -/

def BadArg (L : List Inp) (s : Int) : Prop := s < 1 ∨ 256 < s ∨ L.length = 0
def BadName (L : List Inp) : Prop := ∃ j, j < L.length ∧ nameL (L.getD j zInp).name = false
def Twice (L : List Inp) : Prop := ∃ j i, j < L.length ∧ i < j ∧ (L.getD i zInp).name = (L.getD j zInp).name
def CodeIs (L : List Inp) (s e : Int) : Prop :=
  (BadArg L s ∧ e = 1) ∨ (¬ BadArg L s ∧ ((8 < L.length ∧ e = 5) ∨ (¬ 8 < L.length ∧ ((BadName L ∧ e = 12) ∨ (¬ BadName L ∧ ((Twice L ∧ e = 8) ∨ (¬ Twice L ∧ ((64 < cntOf L s L.length ∧ e = 5) ∨ (¬ 64 < cntOf L s L.length ∧ e = 0)))))))))
theorem CodeIs.one {L : List Inp} {s e f : Int} (h : CodeIs L s e) (k : CodeIs L s f) : e = f := by
  unfold CodeIs at h k
  by_cases h1 : BadArg L s
  · simp only [h1, true_and, not_true, false_and, or_false] at h k; omega
  by_cases h2 : 8 < L.length
  · simp only [h1, h2, false_and, not_false_eq_true, true_and, not_true, or_false, false_or] at h k; omega
  by_cases h3 : BadName L
  · simp only [h1, h2, h3, false_and, not_false_eq_true, true_and, not_true, or_false, false_or] at h k; omega
  by_cases h4 : Twice L
  · simp only [h1, h2, h3, h4, false_and, not_false_eq_true, true_and, not_true, or_false, false_or] at h k; omega
  by_cases h5 : 64 < cntOf L s L.length
  · simp only [h1, h2, h3, h4, h5, false_and, not_false_eq_true, true_and, not_true, or_false, false_or] at h k; omega
  · simp only [h1, h2, h3, h4, h5, false_and, not_false_eq_true, true_and, false_or] at h k; omega
structure Fit (L : List Inp) (s : Int) : Prop where
  s1 : 1 ≤ s
  s2 : s ≤ 256
  f1 : 1 ≤ L.length
  f2 : L.length ≤ 8
  name : ∀ j, j < L.length → nameL (L.getD j zInp).name = true
  once : ∀ j i, j < L.length → i < j → (L.getD i zInp).name ≠ (L.getD j zInp).name
  m1 : cntOf L s L.length ≤ 64
theorem CodeIs.fit {L : List Inp} {s : Int} (h : CodeIs L s 0) : Fit L s := by
  unfold CodeIs at h
  rcases h with ⟨_, e⟩ | ⟨h1, ⟨_, e⟩ | ⟨h2, ⟨_, e⟩ | ⟨h3, ⟨_, e⟩ | ⟨h4, ⟨_, e⟩ | ⟨h5, _⟩⟩⟩⟩⟩
  · omega
  · omega
  · omega
  · omega
  · omega
  · unfold BadArg at h1
    refine ⟨by omega, by omega, by omega, by omega, fun j hj => ?_, fun j i hj hi e => h4 ⟨j, i, hj, hi, e⟩, by omega⟩
    cases e : nameL (L.getD j zInp).name with
    | true => rfl
    | false => exact absurd ⟨j, hj, e⟩ h3

/-! Slices. -/

def chunkAt (b : List Nat) (s i : Nat) : List Nat := (b.drop (i * s)).take s
def chunksOf (b : List Nat) (s : Int) : List (List Nat) := (List.range (cntN b.length s)).map (chunkAt b s.toNat)
theorem chunksOf_len (b : List Nat) (s : Int) : (chunksOf b s).length = cntN b.length s := by simp [chunksOf]
theorem chunkAt_len (b : List Nat) (s i : Nat) : (chunkAt b s i).length = min s (b.length - i * s) := by simp [chunkAt]
theorem cnt_lt {n s i : Nat} (hs : 1 ≤ s) (h2 : s ≤ 256) : i < cntN (n : Int) (s : Int) ↔ i * s < n := by
  by_cases h0 : n = 0
  · subst h0
    unfold cntN
    rw [if_pos (.inl (by omega))]
    constructor <;> intro h <;> omega
  unfold cntN
  rw [if_neg (by omega)]
  simp only [Int.toNat_natCast]
  have d := Nat.div_add_mod n s
  have hm := Nat.mod_lt n (show 0 < s by omega)
  obtain ⟨q, hq⟩ : ∃ q, q = n / s := ⟨_, rfl⟩
  rw [← hq] at d
  rw [← hq]
  rw [Nat.mul_comm] at d
  constructor
  · intro h
    by_cases hr0 : n % s = 0
    · rw [if_pos hr0] at h
      have : (i + 1) * s ≤ q * s := Nat.mul_le_mul_right s (by omega)
      rw [Nat.add_mul, Nat.one_mul] at this
      omega
    · rw [if_neg hr0] at h
      have : i * s ≤ q * s := Nat.mul_le_mul_right s (by omega)
      omega
  · intro h
    by_cases hi : i < q
    · omega
    · have : q * s ≤ i * s := Nat.mul_le_mul_right s (by omega)
      by_cases hr0 : n % s = 0
      · omega
      · rw [if_neg hr0]
        by_cases hi2 : i = q
        · omega
        · have : (q + 1) * s ≤ i * s := Nat.mul_le_mul_right s (by omega)
          rw [Nat.add_mul, Nat.one_mul] at this
          omega
theorem cat_take (b : List Nat) (s : Nat) : ∀ k, ((List.range k).map (chunkAt b s)).flatten = b.take (k * s)
  | 0 => by simp
  | k + 1 => by
    rw [List.range_succ, List.map_append, List.flatten_append, cat_take b s k]
    simp only [List.map_cons, List.map_nil, List.flatten_cons, List.flatten_nil, List.append_nil]
    unfold chunkAt
    rw [Nat.add_mul, Nat.one_mul, List.take_add]
theorem cat_all (b : List Nat) {s : Int} (h1 : 1 ≤ s) (h2 : s ≤ 256) : (chunksOf b s).flatten = b := by
  unfold chunksOf
  rw [cat_take]
  apply List.take_of_length_le
  obtain ⟨S, rfl⟩ : ∃ S : Nat, s = (S : Int) := ⟨s.toNat, by omega⟩
  rw [Int.toNat_natCast]
  have h := cnt_lt (n := b.length) (s := S) (i := cntN (b.length : Int) (S : Int)) (by omega) (by omega)
  by_cases e : cntN (b.length : Int) (S : Int) * S < b.length
  · exact absurd (h.2 e) (by omega)
  · omega
def srcsTo (L : List Inp) (s : Int) : Nat → List (List Nat)
  | 0 => []
  | k + 1 => srcsTo L s k ++ chunksOf (L.getD k zInp).b s
theorem srcsTo_len (L : List Inp) (s : Int) : ∀ k, (srcsTo L s k).length = cntOf L s k
  | 0 => rfl
  | k + 1 => by
    show (srcsTo L s k ++ chunksOf (L.getD k zInp).b s).length = cntOf L s k + cntN (L.getD k zInp).b.length s
    rw [List.length_append, srcsTo_len L s k, chunksOf_len]
theorem srcs_get (L : List Inp) (s : Int) : ∀ {n k i : Nat}, k < n → i < cntN (L.getD k zInp).b.length s → (srcsTo L s n)[cntOf L s k + i]? = some (chunkAt (L.getD k zInp).b s.toNat i)
  | 0, k, i, h, _ => by omega
  | n + 1, k, i, h, hi => by
    show (srcsTo L s n ++ chunksOf (L.getD n zInp).b s)[cntOf L s k + i]? = _
    by_cases e : k = n
    · subst e
      rw [List.getElem?_append_right (by rw [srcsTo_len]; omega), srcsTo_len, show cntOf L s k + i - cntOf L s k = i by omega]
      unfold chunksOf
      rw [List.getElem?_map, List.getElem?_range hi]
      rfl
    · have hle : cntOf L s k + cntN (L.getD k zInp).b.length s ≤ cntOf L s n := cntOf_mono L s (j := k + 1) (by omega)
      rw [List.getElem?_append_left (by rw [srcsTo_len]; omega)]
      exact srcs_get L s (by omega) hi
theorem srcs_short (L : List Inp) (S : Nat) : ∀ (k : Nat) (c : List Nat), c ∈ srcsTo L (S : Int) k → c.length ≤ S
  | 0, c, h => by cases h
  | k + 1, c, h => by
    rcases List.mem_append.1 h with h | h
    · exact srcs_short L S k c h
    · obtain ⟨i, _, rfl⟩ := List.mem_map.1 h
      rw [chunkAt_len, Int.toNat_natCast]
      omega
def smOf (c : List Nat) : Sm := ⟨c.length, crcOf c, dgN c⟩
def filOf (L : List Inp) (s : Int) (k : Nat) : Fil := ⟨(L.getD k zInp).name, (L.getD k zInp).b.length, dgN (L.getD k zInp).b, cntOf L s k⟩
def filsTo (L : List Inp) (s : Int) (k : Nat) : List Fil := (List.range k).map (filOf L s)
theorem filsTo_len (L : List Inp) (s : Int) (k : Nat) : (filsTo L s k).length = k := by simp [filsTo]
theorem filsTo_succ (L : List Inp) (s : Int) (k : Nat) : filsTo L s (k + 1) = filsTo L s k ++ [filOf L s k] := by simp [filsTo, List.range_succ]
theorem filsTo_get (L : List Inp) (s : Int) {n k : Nat} (h : k < n) : (filsTo L s n).getD k zFil = filOf L s k := by simp [filsTo, List.getD, h]
/-- The set that is made. -/
def setOf (L : List Inp) (s : Int) : St := ⟨s, filsTo L s L.length, (srcsTo L s L.length).map smOf⟩
theorem setOf_good {L : List Inp} {s : Int} (h : Fit L s) : ∀ k, k ≤ L.length → Good (setOf L s) k (cntOf L s k)
  | 0, _ => .zero
  | k + 1, hk => by
    have g := setOf_good h k (by omega)
    have hf : ((setOf L s).files.getD k zFil) = filOf L s k := filsTo_get L s (by omega)
    have hfl : (setOf L s).files.length = L.length := filsTo_len _ _ _
    have hsl : (setOf L s).slices.length = cntOf L s L.length := by show ((srcsTo L s L.length).map smOf).length = _; rw [List.length_map, srcsTo_len]
    have hle : cntOf L s k + cntN (L.getD k zInp).b.length s ≤ cntOf L s L.length := cntOf_mono L s (j := k + 1) hk
    have hc : ((setOf L s).files.getD k zFil).size = ((L.getD k zInp).b.length : Int) := by rw [hf]; rfl
    have := Good.next g (by rw [hfl]; omega) ⟨by rw [hc]; omega, by rw [hf]; rfl, by rw [hf]; exact h.name k (by omega), fun j hj => by
      rw [hf, show ((setOf L s).files.getD j zFil) = filOf L s j from filsTo_get L s (by omega)]
      exact h.once k j (by omega) hj, by rw [hc, hsl]; exact hle, fun i hi => by
      rw [hc] at hi ⊢
      have hg := srcs_get L s (n := L.length) (k := k) (i := i) (by omega) hi
      have : (setOf L s).slices.getD (cntOf L s k + i) zSm = smOf (chunkAt (L.getD k zInp).b s.toNat i) := by
        show (((srcsTo L s L.length).map smOf)[cntOf L s k + i]?).getD zSm = _
        rw [List.getElem?_map, hg]
        rfl
      rw [this]
      show ((chunkAt _ _ _).length : Int) = _
      rw [chunkAt_len]
      obtain ⟨S, rfl⟩ : ∃ S : Nat, s = (S : Int) := ⟨s.toNat, by have := h.s1; omega⟩
      have hlt := (cnt_lt (n := (L.getD k zInp).b.length) (s := S) (i := i) (by have := h.s1; omega) (by have := h.s2; omega)).1 hi
      unfold wantI
      rw [Int.toNat_natCast]
      have e : ((i * S : Nat) : Int) = (i : Int) * (S : Int) := by simp
      show _ = min (S : Int) (((L.getD k zInp).b.length : Int) - (i : Int) * (S : Int))
      rw [← e]
      omega⟩
    rw [hc] at this
    exact this
theorem setOf_formed {L : List Inp} {s : Int} (h : Fit L s) : FormedP (setOf L s) := by
  have hfl : (setOf L s).files.length = L.length := filsTo_len _ _ _
  have hsl : (setOf L s).slices.length = cntOf L s L.length := by show ((srcsTo L s L.length).map smOf).length = _; rw [List.length_map, srcsTo_len]
  exact ⟨h.s1, h.s2, by rw [hsl]; exact h.m1, by rw [hfl]; exact h.f1, by rw [hfl]; exact h.f2, by rw [hfl, hsl]; exact setOf_good h _ (Nat.le_refl _)⟩
end Go.Proofs.YtcopjbapglndgaaGreatDoor
end

section
namespace Go.Proofs.YtcopjbapglndgaaGreatDoor
open Go.ChangeShapes Go.WideShapes Go.ChangeAt Go.RowKit Go.Joins
set_option linter.unusedVariables false

theorem right_path16 (s : ByteArray) (hs : s.size ≤ 9223372036854775807) (w : World) (hm : Mx w) :
    Calls Tryz.prog 38 #[.string s] w fun e w' => e = .returned (.bool (nameB s.data.toList)) ∧ Below w.heap.size w w' := by
  have HN := Lib.hid (name_any s hs w hm)
  obtain ⟨r, hr⟩ : ∃ r, r = nameB s.data.toList := ⟨_, rfl⟩
  rw [← hr] at HN ⊢
  clear hr
  go_enter Tryz.func38, Tryz.ntmps38
  go_wp2_with (go_at_call 64; refine HN.out.mono ?_; rintro e w' ⟨rfl, hb⟩)
  go_ret
  exact ⟨rfl, hb⟩
theorem cutCount_any (n s : Int) (w : World) (hn : i64R n) (hs : i64R s) :
    Calls Tryz.prog 40 #[.int .i64 n, .int .i64 s] w fun e w' => e = .returned (.int .i64 (cntN n s : Nat)) ∧ w' = w := by
  have HR := Lib.hid (rcount_any n s w hn hs)
  go_enter Tryz.func40, Tryz.ntmps40
  go_wp2_with (go_at_call 47; refine HR.out.mono ?_; rintro e w' ⟨rfl, rfl⟩)
  go_ret
  exact ⟨rfl, rfl⟩
set_option maxRecDepth 1000000 in
set_option maxHeartbeats 4000000 in
theorem few16_any (a : Option Addr) (cap : Nat) (L : List Inp) (w : World) (hs : Inps w a cap L) :
    Calls Tryz.prog 7 #[.slice a L.length cap] w fun e w' => ∃ r : Bool, (e = .returned (.bool r) ∧ Below w.heap.size w w') ∧ (r = true ↔ FewI L) := by
  have mixed : Tryz.prog.follows .mixedOrders = true := by kernel_rfl
  have HS := Lib.hid hs
  have hll := hs.lt
  clear hs
  have HB0 : Hid (Below w.heap.size w w) := Below.refl _ _
  have HJ0 : Hid (∀ k, k < 0 → k < 12 ∧ bytesOf L (k + 1) ≤ 30000) := fun j hj => by omega
  go_enter Tryz.func7, Tryz.ntmps7
  go_wp2_with fail
  go_loopw [3, 7] (fun n i wr => ∃ k N : Nat, k ≤ L.length ∧ i = .int .i64 k ∧ n = .int .i64 N ∧ N = bytesOf L k ∧ k ≤ 12 ∧ N ≤ 30000 ∧ Hid (∀ j, j < k → j < 12 ∧ bytesOf L (j + 1) ≤ 30000) ∧ Hid (Below w.heap.size w wr)) (fun _ i _ => L.length - (intOf i).toNat)
  case atStart => exact ⟨0, 0, by omega, rfl, rfl, rfl, by omega, by omega, HJ0, HB0⟩
  case round =>
    obtain ⟨k, N, hk, rfl, rfl, hN, hk12, hN3, HJ, HB⟩ := hrel
    clear HJ0 HB0
    by_cases hlt : k < L.length
    · obtain ⟨fb, off, rfl, hbl, hx⟩ := inps_one (HS.out.below HB.out) hlt
      have hsl := HS.out.sl _ (List.getElem_mem hlt)
      have hby := HS.out.byte _ (List.getElem_mem hlt)
      have hgd := getI hlt
      obtain ⟨f, hf⟩ : ∃ f, f = L[k] := ⟨_, rfl⟩
      rw [← hf] at hx hsl hgd hby
      have k0 : wr.cell? ⟨fb, off + k * 2, none⟩ = some (.string (strOf f.name)) := by
        have := hx 0 (by omega)
        simpa [inV] using this
      have k1 : wr.cell? ⟨fb, off + k * 2 + 1, none⟩ = some (.slice f.a f.b.length f.c) := by
        have := hx 1 (by omega)
        simpa [inV] using this
      have hsz := strOf_size f.name
      obtain ⟨n1, hn1⟩ : ∃ n, n = f.name.length := ⟨_, rfl⟩
      obtain ⟨n2, hn2⟩ : ∃ n, n = f.b.length := ⟨_, rfl⟩
      rw [← hn1] at hsz
      rw [← hn2] at k1
      have hm1 : n1 ≤ 140737488355328 := by rw [hn1]; exact hby.2.1
      have hm2 : n2 ≤ 140737488355328 := by rw [hn2]; exact hby.2.2
      have HNX : Hid (bytesOf L (k + 1) = N + n2 + n1) := by
        show bytesOf L k + (L.getD k zInp).b.length + (L.getD k zInp).name.length = _
        rw [hgd, hN, hn1, hn2]
      have HFN : Hid (12 ≤ k ∨ 30000 < N + n2 + n1 → ¬ FewI L) := fun h hf => by
        have := hf k hlt
        rw [HNX.out] at this
        omega
      have hfb : (fb : Nat) < wr.heap.size := hbl
      clear hx hsl hby hgd hf hn1 hn2 hN
      by_cases q1 : 12 ≤ k
      · have d1 : decide ((12 : Int) ≤ (k : Int)) = true := decide_eq_true (by omega)
        have d2 : decide (12 ≤ k) = true := decide_eq_true q1
        have HRR : Hid (¬ FewI L) := HFN.out (.inl q1)
        go_upto_region 5 with fail
        go_big_region_o
        go_wp2_with fail
        go_ret
        exact ⟨false, ⟨rfl, HB.out.drew⟩, ⟨fun h => (by cases h), fun h => absurd h HRR.out⟩⟩
      · have d1 : decide ((12 : Int) ≤ (k : Int)) = false := decide_eq_false (by omega)
        have d2 : decide (12 ≤ k) = false := decide_eq_false q1
        by_cases q2 : 30000 < N + n2 + n1
        · have d3 : decide ((30000 : Int) < (N : Int) + (n2 : Int) + (n1 : Int)) = true := decide_eq_true (by omega)
          have HRR : Hid (¬ FewI L) := HFN.out (.inr q2)
          go_upto_region 5 with fail
          go_big_region_o
          go_wp2_with fail
          go_ret
          exact ⟨false, ⟨rfl, HB.out.drew⟩, ⟨fun h => (by cases h), fun h => absurd h HRR.out⟩⟩
        · have d3 : decide ((30000 : Int) < (N : Int) + (n2 : Int) + (n1 : Int)) = false := decide_eq_false (by omega)
          have HJN : Hid (∀ j, j < k + 1 → j < 12 ∧ bytesOf L (j + 1) ≤ 30000) := fun j hj => by
            by_cases e : j = k
            · subst e; rw [HNX.out]; omega
            · exact HJ.out j (by omega)
          go_upto_region 5 with fail
          go_big_region_o
          go_wp2_with fail
          go_roundw
          case rel => exact ⟨k + 1, N + n2 + n1, by omega, by go_num, by go_num, HNX.out.symm, by omega, by omega, HJN, HB.out.drew⟩
          case measure => simp [intOf]; omega
    · obtain rfl : k = L.length := by omega
      go_wp2_with fail
      go_ret
      exact ⟨true, ⟨rfl, HB.out⟩, ⟨fun _ => HJ.out, fun _ => rfl⟩⟩
end Go.Proofs.YtcopjbapglndgaaGreatDoor
end

section
namespace Go.Proofs.YtcopjbapglndgaaGreatDoor
open Go.ChangeShapes Go.WideShapes Go.ChangeAt Go.RowKit Go.Joins
set_option linter.unusedVariables false

theorem inp_cells {w : World} {L : List Inp} {fb off k : Nat} (h : k < L.length) (hx : ∀ j, j < 2 → w.cell? ⟨fb, off + k * 2 + j, none⟩ = some (inV L[k] j)) :
    w.cell? ⟨fb, off + k * 2, none⟩ = some (.string (strOf L[k].name)) ∧ w.cell? ⟨fb, off + k * 2 + 1, none⟩ = some (.slice L[k].a L[k].b.length L[k].c) := by
  have h0 := hx 0 (by omega)
  have h1 := hx 1 (by omega)
  exact ⟨by simpa [inV] using h0, by simpa [inV] using h1⟩
set_option maxRecDepth 1000000 in
set_option maxHeartbeats 8000000 in
theorem wrong_any (a : Option Addr) (cap : Nat) (L : List Inp) (s : Int) (w : World) (hs : Inps w a cap L) (hf : FewI L) (hz : i64R s) :
    Calls Tryz.prog 9 #[.slice a L.length cap, .int .i64 s] w fun e w' => (∃ c, e = .returned (.int .i64 c) ∧ CodeIs L s c) ∧ Below w.heap.size w w' := by
  have mixed : Tryz.prog.follows .mixedOrders = true := by kernel_rfl
  have HS := Lib.hid hs
  have HF := Lib.hid hf
  have hll := hf.len
  obtain ⟨hz1, hz2⟩ := hz
  obtain ⟨PQ, hPQ⟩ : ∃ PQ : Ending → World → Prop, PQ = fun e w' => (∃ c, e = .returned (.int .i64 c) ∧ CodeIs L s c) ∧ Below w.heap.size w w' := ⟨_, rfl⟩
  have HR : Hid (∀ c w', CodeIs L s c → Below w.heap.size w w' → PQ (.returned (.int .i64 c)) w') := by
    show ∀ _ _, _
    rw [hPQ]; exact fun c w' h1 h2 => ⟨⟨c, rfl, h1⟩, h2⟩
  rw [← hPQ]
  clear hPQ hs hf
  by_cases h1 : s < 1
  · have HC : Hid (CodeIs L s 1) := .inl ⟨.inl h1, rfl⟩
    have HRR := Lib.hid (HR.out 1 w HC.out (Below.refl _ _))
    go_enter Tryz.func9, Tryz.ntmps9
    go_wp2_with fail
    exact HRR.out
  by_cases h2 : 256 < s
  · have HC : Hid (CodeIs L s 1) := .inl ⟨.inr (.inl h2), rfl⟩
    have HRR := Lib.hid (HR.out 1 w HC.out (Below.refl _ _))
    go_enter Tryz.func9, Tryz.ntmps9
    go_wp2_with fail
    exact HRR.out
  by_cases h3 : L.length = 0
  · have HC : Hid (CodeIs L s 1) := .inl ⟨.inr (.inr h3), rfl⟩
    have HRR := Lib.hid (HR.out 1 w HC.out (Below.refl _ _))
    have h3z : (L.length : Int) = 0 := by omega
    have h3b : ((L.length : Int) == 0) = true := beq_iff_eq.2 h3z
    go_enter Tryz.func9, Tryz.ntmps9
    go_wp2_with fail
    exact HRR.out
  have h3b : ((L.length : Int) == 0) = false := beq_false_of_ne (by omega)
  have HNA : Hid (¬ BadArg L s) := fun h => by rcases h with h | h | h <;> omega
  by_cases h4 : 8 < L.length
  · have HC : Hid (CodeIs L s 5) := .inr ⟨HNA.out, .inl ⟨h4, rfl⟩⟩
    have HRR := Lib.hid (HR.out 5 w HC.out (Below.refl _ _))
    have d1 : decide ((8 : Int) < (L.length : Int)) = true := decide_eq_true (by omega)
    have d2 : decide (8 < L.length) = true := decide_eq_true h4
    go_enter Tryz.func9, Tryz.ntmps9
    go_wp2_with fail
    exact HRR.out
  have d1 : decide ((8 : Int) < (L.length : Int)) = false := decide_eq_false (by omega)
  have d2 : decide (8 < L.length) = false := decide_eq_false h4
  have H4 : Hid (¬ 8 < L.length) := h4
  have HB0 : Hid (Below w.heap.size w w) := Below.refl _ _
  have HN0 : Hid (∀ j, j < 0 → nameL (L.getD j zInp).name = true) := fun j h => by omega
  clear h3 h4
  go_enter Tryz.func9, Tryz.ntmps9
  go_wp2_with fail
  clear h3b d1 d2
  go_loopw [25] (fun i wr => ∃ k : Nat, k ≤ L.length ∧ i = .int .i64 k ∧ Hid (∀ j, j < k → nameL (L.getD j zInp).name = true) ∧ Hid (Below w.heap.size w wr)) (fun i _ => L.length - (intOf i).toNat)
  case atStart => exact ⟨0, by omega, rfl, HN0, HB0⟩
  case round =>
    obtain ⟨k, hk, rfl, HN, HB⟩ := hrel
    clear HN0 HB0
    by_cases hlt : k < L.length
    · obtain ⟨fb, off, rfl, hbl, hx⟩ := inps_one (HS.out.below HB.out) hlt
      obtain ⟨k0, k1⟩ := inp_cells hlt hx
      have hby := HS.out.byte _ (List.getElem_mem hlt)
      have hgd := getI hlt
      obtain ⟨f, hfe⟩ : ∃ f, f = L[k] := ⟨_, rfl⟩
      rw [← hfe] at k0 k1 hgd hby
      have hnz : (strOf f.name).size ≤ 9223372036854775807 := by rw [strOf_size]; omega
      have HP := Lib.hid (refPath_any (strOf f.name) hnz wr)
      obtain ⟨q, hq⟩ : ∃ q, q = nameB (strOf f.name).data.toList := ⟨_, rfl⟩
      rw [← hq] at HP
      have HQ : Hid (nameL (L.getD k zInp).name = q) := by show _ = _; rw [hgd, nameL_eq, ← hq]
      clear hx hby hgd hfe hnz k1 hq
      cases q
      · have HC : Hid (CodeIs L s 12) := .inr ⟨HNA.out, .inr ⟨H4.out, .inl ⟨⟨k, hlt, HQ.out⟩, rfl⟩⟩⟩
        go_wp2_with (go_at_call 24; refine HP.out.mono ?_; rintro e w2 ⟨rfl, hb2⟩; have HB2 := Lib.hid (HB.out.trans (hb2.mono HB.out.size)); clear hb2)
        exact HR.out 12 _ HC.out HB2.out
      · have HN2 : Hid (∀ j, j < k + 1 → nameL (L.getD j zInp).name = true) := fun j hj => by
          by_cases e : j = k
          · subst e; exact HQ.out
          · exact HN.out j (by omega)
        go_wp2_with (go_at_call 24; refine HP.out.mono ?_; rintro e w2 ⟨rfl, hb2⟩; have HB2 := Lib.hid (HB.out.trans (hb2.mono HB.out.size)); clear hb2)
        go_roundw
        case rel => exact ⟨k + 1, by omega, by go_num, HN2, HB2⟩
        case measure => simp [intOf]; omega
    · obtain rfl : k = L.length := by omega
      have HNB : Hid (¬ BadName L) := fun ⟨j, hj, e⟩ => by rw [HN.out j hj] at e; cases e
      have HT0 : Hid (∀ j i, j < 0 → i < j → (L.getD i zInp).name ≠ (L.getD j zInp).name) := fun j i h => by omega
      clear HN hk hlt
      have HB1 := HB
      clear HB
      go_wp2_with fail
      go_loopw [5, 38] (fun n i wr => ∃ k N : Nat, k ≤ L.length ∧ i = .int .i64 k ∧ n = .int .i64 N ∧ N = cntOf L s k ∧ Hid (∀ j i, j < k → i < j → (L.getD i zInp).name ≠ (L.getD j zInp).name) ∧ Hid (Below w.heap.size w wr)) (fun _ i _ => L.length - (intOf i).toNat)
      case atStart => exact ⟨0, 0, by omega, rfl, rfl, rfl, HT0, HB1⟩
      case round =>
        obtain ⟨k, N, hk, rfl, rfl, hN, HT, HB⟩ := hrel
        clear HT0 HB1
        by_cases hlt : k < L.length
        · have hN3 : N ≤ 30000 := by rw [hN]; exact HF.out.cnt s (by omega)
          obtain ⟨fb, off, rfl, hbl, hx⟩ := inps_one (HS.out.below HB.out) hlt
          obtain ⟨W1, rfl⟩ : ∃ z, z = wr := ⟨_, rfl⟩
          have HG : Hid (∀ i (h : i < L.length) W1', Below W1.heap.size W1 W1' → W1'.cell? ⟨fb, off + i * 2, none⟩ = some (.string (strOf L[i].name)) ∧ W1'.cell? ⟨fb, off + i * 2 + 1, none⟩ = some (.slice L[i].a L[i].b.length L[i].c)) := fun i hi W1' hb => by
            obtain ⟨fb', off', e, _, hx'⟩ := inps_one (HS.out.below (HB.out.trans (hb.mono HB.out.size))) hi
            cases e
            exact inp_cells hi hx'
          have HJ0 : Hid (∀ i, i < 0 → (L.getD i zInp).name ≠ (L.getD k zInp).name) := fun i h => by omega
          have HBR : Hid (Below W1.heap.size W1 W1) := Below.refl _ _
          have hgd := getI hlt
          have hby := HS.out.byte _ (List.getElem_mem hlt)
          have hone := HF.out.one hlt
          rw [hgd] at hone
          obtain ⟨f, hfe⟩ : ∃ f, f = L[k] := ⟨_, rfl⟩
          rw [← hfe] at hgd hby hone
          have HFE := Lib.hid hfe
          have HGD := Lib.hid hgd
          have HBY := Lib.hid hby.1
          have HO := Lib.hid hone.1
          clear hx hgd hby hfe hone
          go_wp2_with fail
          go_loopw [42] (fun i wr => ∃ m : Nat, m ≤ k ∧ i = .int .i64 m ∧ Hid (∀ i, i < m → (L.getD i zInp).name ≠ (L.getD k zInp).name) ∧ Hid (Below W1.heap.size W1 wr)) (fun i _ => k - (intOf i).toNat)
          case atStart => exact ⟨0, by omega, rfl, HJ0, HBR⟩
          case round =>
            obtain ⟨m, hm, rfl, HJ, HB2⟩ := hrel
            clear HJ0 HBR
            have hg1 := (HG.out k hlt wr HB2.out)
            rw [← HFE.out] at hg1
            obtain ⟨c0, c1⟩ := hg1
            by_cases hlm : m < k
            · obtain ⟨e0, _⟩ := HG.out m (by omega) wr HB2.out
              have hgm := getI (L := L) (k := m) (by omega)
              have hbm := (HS.out.byte _ (List.getElem_mem (show m < L.length by omega))).1
              obtain ⟨g, hg⟩ : ∃ g, g = L[m] := ⟨_, rfl⟩
              rw [← hg] at e0 hgm hbm
              have HQ := str_beq hbm HBY.out
              obtain ⟨q, hq⟩ : ∃ q, q = decide (g.name = f.name) := ⟨_, rfl⟩
              rw [← hq] at HQ
              have hmi : (m : Int) < (k : Int) := by omega
              have hml : (m : Int) < (L.length : Int) := by omega
              have hkl : (k : Int) < (L.length : Int) := by omega
              have HGM := Lib.hid hgm
              have hfb2 : fb < wr.heap.size := Nat.lt_of_lt_of_le hbl HB2.out.size
              clear hg hbm c1 hgm
              obtain ⟨A, hA⟩ : ∃ A, A = strOf g.name := ⟨_, rfl⟩
              obtain ⟨B, hB⟩ : ∃ B, B = strOf f.name := ⟨_, rfl⟩
              rw [← hA, ← hB] at HQ
              rw [← hA] at e0
              rw [← hB] at c0
              have HQD := Lib.hid hq
              clear hA hB hq
              cases q
              · have HJ2 : Hid (∀ i, i < m + 1 → (L.getD i zInp).name ≠ (L.getD k zInp).name) := fun i hi => by
                  by_cases e : i = m
                  · subst e; rw [HGM.out, HGD.out]; exact of_decide_eq_false HQD.out.symm
                  · exact HJ.out i (by omega)
                go_upto_region 18 with fail
                go_big_region_o
                go_wp2_with fail
                go_roundw
                case rel => exact ⟨m + 1, by omega, by go_num, HJ2, HB2.out.drew⟩
                case measure => simp [intOf]; omega
              · have HC : Hid (CodeIs L s 8) := .inr ⟨HNA.out, .inr ⟨H4.out, .inr ⟨HNB.out, .inl ⟨⟨k, m, hlt, hlm, by rw [HGM.out, HGD.out]; exact of_decide_eq_true HQD.out.symm⟩, rfl⟩⟩⟩⟩
                have HRR := Lib.hid (fun w' h => HR.out 8 w' HC.out h)
                go_upto_region 18 with fail
                go_big_region_o
                go_wp2_with fail
                exact HRR.out _ (HB.out.trans (HB2.out.drew.mono HB.out.size))
            · obtain rfl : m = k := by omega
              have hfl : f.b.length ≤ 30000 := HO.out
              have HCT := Lib.hid (fun (w : World) => count_any (f.b.length : Int) s w ⟨by omega, by omega⟩ ⟨by omega, by omega⟩)
              have hcl := cntN_le (f.b.length : Int) s
              obtain ⟨c, hc⟩ : ∃ c, c = cntN (f.b.length : Int) s := ⟨_, rfl⟩
              rw [← hc] at HCT hcl
              have hcl2 : c ≤ 30000 := by omega
              have HNX : Hid (cntOf L s (m + 1) = N + c) := by
                show cntOf L s m + cntN (L.getD m zInp).b.length s = _
                rw [HGD.out, ← hc, hN]
              have HT2 : Hid (∀ j i, j < m + 1 → i < j → (L.getD i zInp).name ≠ (L.getD j zInp).name) := fun j i hj hi => by
                by_cases e : j = m
                · subst e; exact HJ.out i hi
                · exact HT.out j i (by omega) hi
              have HBX := Lib.hid (HB.out.trans (HB2.out.mono HB.out.size))
              obtain ⟨n2, hn2⟩ : ∃ n2, n2 = f.b.length := ⟨_, rfl⟩
              rw [← hn2] at HCT c1 hfl
              clear hc hcl c0 hN hn2 HO
              go_wp2_with (go_at_call 25; refine (HCT.out _).mono ?_; rintro e w' ⟨rfl, hw⟩; obtain rfl := hw)
              go_roundw
              case rel => exact ⟨m + 1, N + c, by omega, by go_num, by go_num, HNX.out.symm, HT2, HBX⟩
              case measure => simp [intOf]; omega
        · obtain rfl : k = L.length := by omega
          have HNT : Hid (¬ Twice L) := fun ⟨j, i, hj, hi, e⟩ => HT.out j i hj hi e
          have hN3 : N ≤ 30000 := by rw [hN]; exact HF.out.cnt s (by omega)
          by_cases h5 : 64 < N
          · have d1 : decide ((64 : Int) < (N : Int)) = true := decide_eq_true (by omega)
            have d2 : decide (64 < N) = true := decide_eq_true h5
            have HC : Hid (CodeIs L s 5) := .inr ⟨HNA.out, .inr ⟨H4.out, .inr ⟨HNB.out, .inr ⟨HNT.out, .inl ⟨by rw [← hN]; exact h5, rfl⟩⟩⟩⟩⟩
            have HRR := Lib.hid (HR.out 5 _ HC.out HB.out)
            clear hN
            go_wp2_with fail
            exact HRR.out
          · have d1 : decide ((64 : Int) < (N : Int)) = false := decide_eq_false (by omega)
            have d2 : decide (64 < N) = false := decide_eq_false h5
            have HC : Hid (CodeIs L s 0) := .inr ⟨HNA.out, .inr ⟨H4.out, .inr ⟨HNB.out, .inr ⟨HNT.out, .inr ⟨by rw [← hN]; exact h5, rfl⟩⟩⟩⟩⟩
            have HRR := Lib.hid (HR.out 0 _ HC.out HB.out)
            clear hN
            go_wp2_with fail
            exact HRR.out
end Go.Proofs.YtcopjbapglndgaaGreatDoor
end

section
namespace Go.Proofs.YtcopjbapglndgaaGreatDoor
open Go.ChangeShapes Go.WideShapes Go.ChangeAt Go.RowKit Go.Joins
set_option linter.unusedVariables false

theorem inV_at (f : Inp) (w : World) (b : Nat) (t : TypeId) (h : w.heap[b]? = some (.cells (rowArr 2 (inV f)) t (0, 0))) : w.cell? ⟨b, 0, none⟩ = some (.string (strOf f.name)) ∧ w.cell? ⟨b, 1, none⟩ = some (.slice f.a f.b.length f.c) := by
  have k : ∀ j, j < 2 → w.cell? ⟨b, j, none⟩ = some (inV f j) := fun j hj => by rw [cell_of_block h]; simp [rowArr, hj]
  exact ⟨k 0 (by omega), k 1 (by omega)⟩
theorem hasClo_any16 (f : Inp) (hf : IsByte f.name) (bx : Nat) (nm : List Nat) (hn : IsByte nm) (w : World) (hc : w.cell? ⟨bx, 0, none⟩ = some (.string (strOf nm))) :
    Calls Tryz.prog 66 #[.agg (rowArr 2 (inV f)), .pointer (some ⟨bx, 0, none⟩)] w fun e w' => e = .returned (.bool (decide (f.name = nm))) ∧ Below w.heap.size w w' := by
  obtain ⟨r, hr⟩ : ∃ r, r = decide (f.name = nm) := ⟨_, rfl⟩
  have HQ : Hid (((strOf f.name).toList == (strOf nm).toList) = r) := by show _ = _; rw [hr]; exact str_beq hf hn
  have hb : bx < w.heap.size := World.block_lt_of_cell? w _ hc
  have HB : Hid (Below w.heap.size w (w.alloc (.cells (rowArr 2 (inV f)) 54))) := (Below.refl _ _).alloc (Nat.le_refl _) _
  have h0 : (w.alloc (.cells (rowArr 2 (inV f)) 54)).cell? ⟨w.heap.size, 0, none⟩ = some (.string (strOf f.name)) := (inV_at f _ _ _ (heap_alloc_last w _)).1
  have h1 : (w.alloc (.cells (rowArr 2 (inV f)) 54)).cell? ⟨bx, 0, none⟩ = some (.string (strOf nm)) := (HB.out.cell hb).trans hc
  rw [← hr]
  obtain ⟨arr, harr⟩ : ∃ arr, arr = rowArr 2 (inV f) := ⟨_, rfl⟩
  rw [← harr] at HB h0 h1 ⊢
  obtain ⟨A, hA⟩ : ∃ A, A = strOf f.name := ⟨_, rfl⟩
  obtain ⟨B, hB⟩ : ∃ B, B = strOf nm := ⟨_, rfl⟩
  rw [← hA, ← hB] at HQ
  rw [← hA] at h0
  rw [← hB] at h1
  clear hr harr hc hA hB
  go_enter Tryz.func66, Tryz.ntmps66
  go_wp2_with fail
  go_ret
  exact ⟨ret_bool HQ.out, HB.out⟩
set_option maxRecDepth 1000000 in
set_option maxHeartbeats 2000000 in
theorem hasIndex_any16 (a : Option Addr) (cap : Nat) (l : List Inp) (bx : Nat) (nm : List Nat) (hn : IsByte nm) (w : World) (hs : Inps w a cap l) (hc : w.cell? ⟨bx, 0, none⟩ = some (.string (strOf nm))) :
    Calls Tryz.prog 83 #[.slice a l.length cap, .func (.func 66) #[] #[.pointer (some ⟨bx, 0, none⟩)]] w fun e w' =>
      (∃ r : Int, e = .returned (.int .i64 r) ∧ (0 ≤ r ↔ ∃ j, j < l.length ∧ (l.getD j zInp).name = nm)) ∧ Below w.heap.size w w' := by
  have HS := Lib.hid hs
  have hlm := hs.lt
  have hb : bx < w.heap.size := World.block_lt_of_cell? w _ hc
  have HC := Lib.hid hc
  clear hs hc
  have HK0 : Hid (∀ j, j < 0 → (l.getD j zInp).name ≠ nm) := fun i h => by omega
  have HB0 : Hid (Below w.heap.size w w) := Below.refl _ _
  go_enter Tryz.func83, Tryz.ntmps83
  go_wp2_with fail
  go_loopw [8] (fun i wr => ∃ k : Nat, k ≤ l.length ∧ i = .int .i64 k ∧ Hid (∀ j, j < k → (l.getD j zInp).name ≠ nm) ∧ Hid (Below w.heap.size w wr)) (fun i _ => l.length - (intOf i).toNat)
  case atStart => exact ⟨0, by omega, rfl, HK0, HB0⟩
  case round =>
    obtain ⟨k, hk, rfl, HK, HB⟩ := hrel
    clear HB0 HK0
    by_cases hlt : k < l.length
    · obtain ⟨sb, off, rfl, hbl, hx⟩ := inps_one (HS.out.below HB.out) hlt
      have hok := (HS.out.byte _ (List.getElem_mem hlt)).1
      have hgd : l.getD k zInp = l[k] := by simp [List.getD, hlt]
      obtain ⟨x, hxx⟩ : ∃ x, x = l[k] := ⟨_, rfl⟩
      rw [← hxx] at hx hok hgd
      have HXC := Lib.hid hx
      have HA := Lib.hid (hasClo_any16 x hok bx nm hn wr ((HB.out.cell hb).trans HC.out))
      have HT : Hid (decide (x.name = nm) = true → ∃ j, j < l.length ∧ (l.getD j zInp).name = nm) := fun h => ⟨k, hlt, by rw [hgd]; exact of_decide_eq_true h⟩
      have HF : Hid (decide (x.name = nm) = false → ∀ j, j < k + 1 → (l.getD j zInp).name ≠ nm) := fun h j hj => by
        by_cases e : j = k
        · subst e; rw [hgd]; exact of_decide_eq_false h
        · exact HK.out j (by omega)
      obtain ⟨SX, hSX⟩ : ∃ SX, SX = rowArr 2 (inV x) := ⟨_, rfl⟩
      have VX : Hid (rowArr 2 (inV x) = SX) := hSX.symm
      rw [← hSX] at HA
      obtain ⟨q, hq⟩ : ∃ q, q = decide (x.name = nm) := ⟨_, rfl⟩
      rw [← hq] at HA HT HF
      clear hx hok hxx hSX hgd hq HK
      cases q
      · have HF2 := Lib.hid (HF.out rfl)
        go_wp2_with (first
          | (refine wpList_load_v (by rfl) 54 _ rfl sb (off + k * 2) 2 _ SX VX.out rfl _ HXC.out Tryz.underlying54 rfl (by kernel_rfl) ?_)
          | (go_at_call 66; refine HA.out.mono ?_; rintro e w2 ⟨rfl, hb2⟩; have HB2 := Lib.hid (HB.out.trans (hb2.mono HB.out.size)); clear hb2))
        go_roundw
        case rel => exact ⟨k + 1, by omega, by go_num, HF2, HB2⟩
        case measure => simp [intOf]; omega
      · have HT2 := Lib.hid (HT.out rfl)
        go_wp2_with (first
          | (refine wpList_load_v (by rfl) 54 _ rfl sb (off + k * 2) 2 _ SX VX.out rfl _ HXC.out Tryz.underlying54 rfl (by kernel_rfl) ?_)
          | (go_at_call 66; refine HA.out.mono ?_; rintro e w2 ⟨rfl, hb2⟩; have HB2 := Lib.hid (HB.out.trans (hb2.mono HB.out.size)); clear hb2))
        go_ret
        exact ⟨⟨(k : Int), rfl, by constructor; · exact fun _ => HT2.out
                                   · exact fun _ => by omega⟩, HB2.out⟩
    · obtain rfl : k = l.length := by omega
      go_wp2_with fail
      go_ret
      refine ⟨⟨-1, rfl, ?_⟩, HB.out⟩
      constructor
      · intro h; omega
      · rintro ⟨j, hj, e⟩; exact absurd e (HK.out j hj)
set_option maxRecDepth 1000000 in
theorem hasAny_any16 (a : Option Addr) (cap : Nat) (l : List Inp) (bx : Nat) (nm : List Nat) (hn : IsByte nm) (w : World) (hs : Inps w a cap l) (hc : w.cell? ⟨bx, 0, none⟩ = some (.string (strOf nm))) :
    Calls Tryz.prog 65 #[.slice a l.length cap, .func (.func 66) #[] #[.pointer (some ⟨bx, 0, none⟩)]] w fun e w' =>
      (∃ r : Bool, e = .returned (.bool r) ∧ (r = true ↔ ∃ j, j < l.length ∧ (l.getD j zInp).name = nm)) ∧ Below w.heap.size w w' := by
  have HI := Lib.hid (hasIndex_any16 a cap l bx nm hn w hs hc)
  have hlm := hs.lt
  obtain ⟨L, hL⟩ : ∃ L, L = l.length := ⟨_, rfl⟩
  rw [← hL] at HI hlm ⊢
  clear hs hc hL
  go_enter Tryz.func65, Tryz.ntmps65
  go_wp2_with (go_at_call 83; refine HI.out.mono ?_; rintro e w2 ⟨⟨r, rfl, hr⟩, hb2⟩; have HR := Lib.hid hr; clear hr)
  go_ret
  refine ⟨⟨_, rfl, ?_⟩, hb2⟩
  rw [decide_eq_true_iff]
  exact HR.out
set_option maxRecDepth 1000000 in
theorem has_any16 (a : Option Addr) (cap : Nat) (l : List Inp) (nm : List Nat) (hn : IsByte nm) (w : World) (hs : Inps w a cap l) :
    Calls Tryz.prog 39 #[.slice a l.length cap, .string (strOf nm)] w fun e w' => (∃ r : Bool, e = .returned (.bool r) ∧ (r = true ↔ ∃ j, j < l.length ∧ (l.getD j zInp).name = nm)) ∧ Below w.heap.size w w' := by
  have hb : Below w.heap.size w (w.alloc (.cells #[.string (strOf nm)] 9)) := (Below.refl _ _).alloc (Nat.le_refl _) _
  have HI := Lib.hid (hasAny_any16 a cap l w.heap.size nm hn (w.alloc (.cells #[.string (strOf nm)] 9)) (hs.below hb) (by rw [World.cell?_alloc_new]; rfl))
  have HB := Lib.hid hb
  obtain ⟨N, hN⟩ : ∃ N, N = strOf nm := ⟨_, rfl⟩
  obtain ⟨L, hL⟩ : ∃ L, L = l.length := ⟨_, rfl⟩
  have hlm := hs.lt
  rw [← hN] at HI HB ⊢
  rw [← hL] at HI hlm ⊢
  have mk := mkFunc14
  clear hs hb hN hL
  go_enter Tryz.func39, Tryz.ntmps39
  go_wp2_with (go_at_call 65; refine HI.out.mono ?_; rintro e w2 ⟨⟨r, rfl, hr⟩, hb2⟩; have HR := Lib.hid hr; clear hr)
  go_ret
  exact ⟨⟨r, rfl, HR.out⟩, HB.out.trans (hb2.mono HB.out.size)⟩
end Go.Proofs.YtcopjbapglndgaaGreatDoor
end

section
namespace Go.Proofs.YtcopjbapglndgaaGreatDoor
open Go.ChangeShapes Go.WideShapes Go.ChangeAt Go.RowKit Go.Joins
set_option linter.unusedVariables false

theorem elemInp : Tryz.prog.elem 22 = 54 := by kernel_rfl
theorem undInps : Tryz.prog.underlying 22 = some (.slice (Tryz.prog.elem 22)) := by rw [elemInp]; exact Tryz.underlying22
theorem sizeInp (w : World) : (sizeOf 54).run Tryz.prog w = .ok 2 w := by kernel_rfl
/-- l[:k] of files. -/
theorem inps_front (a : Option Addr) (n cap k : Nat) (hk : k ≤ cap) : ∀ W, (Instr.slice 22 (.slice a n cap) none (some (.int .i64 (k : Int))) none).run Tryz.prog W = .ok (.slice a k cap) W := fun W => by
  rw [run_slice_h W 22 a n cap undInps .i64 _ (by omega) (by omega), elemInp, sizeInp]
  cases a with
  | none => simp [Result.andThen, sliced]
  | some p => simp [Result.andThen, sliced, Addr.add]
set_option maxRecDepth 1000000 in
set_option maxHeartbeats 8000000 in
theorem fault_any (a : Option Addr) (cap : Nat) (L : List Inp) (s : Int) (w : World) (hs : Inps w a cap L) (hf : FewI L) (hz : i64R s) (hm : Mx w) :
    Calls Tryz.prog 19 #[.slice a L.length cap, .int .i64 s] w fun e w' => (∃ c, e = .returned (.int .i64 c) ∧ CodeIs L s c) ∧ Below w.heap.size w w' := by
  have mixed : Tryz.prog.follows .mixedOrders = true := by kernel_rfl
  have HS := Lib.hid hs
  have HF := Lib.hid hf
  have HM := Lib.hid hm
  have hll := hf.len
  have hlc := hs.len
  have hcm : cap ≤ 9223372036854775807 := by have := hs.most; unfold maxLen at this; omega
  obtain ⟨hz1, hz2⟩ := hz
  obtain ⟨PQ, hPQ⟩ : ∃ PQ : Ending → World → Prop, PQ = fun e w' => (∃ c, e = .returned (.int .i64 c) ∧ CodeIs L s c) ∧ Below w.heap.size w w' := ⟨_, rfl⟩
  have HR : Hid (∀ c w', CodeIs L s c → Below w.heap.size w w' → PQ (.returned (.int .i64 c)) w') := by
    show ∀ _ _, _
    rw [hPQ]; exact fun c w' h1 h2 => ⟨⟨c, rfl, h1⟩, h2⟩
  rw [← hPQ]
  clear hPQ hs hf hm
  by_cases h1 : s < 1
  · have HC : Hid (CodeIs L s 1) := .inl ⟨.inl h1, rfl⟩
    have HRR := Lib.hid (HR.out 1 w HC.out (Below.refl _ _))
    go_enter Tryz.func19, Tryz.ntmps19
    go_wp2_with fail
    exact HRR.out
  by_cases h2 : 256 < s
  · have HC : Hid (CodeIs L s 1) := .inl ⟨.inr (.inl h2), rfl⟩
    have HRR := Lib.hid (HR.out 1 w HC.out (Below.refl _ _))
    go_enter Tryz.func19, Tryz.ntmps19
    go_wp2_with fail
    exact HRR.out
  by_cases h3 : L.length = 0
  · have HC : Hid (CodeIs L s 1) := .inl ⟨.inr (.inr h3), rfl⟩
    have HRR := Lib.hid (HR.out 1 w HC.out (Below.refl _ _))
    have h3z : (L.length : Int) = 0 := by omega
    have h3b : ((L.length : Int) == 0) = true := beq_iff_eq.2 h3z
    go_enter Tryz.func19, Tryz.ntmps19
    go_wp2_with fail
    exact HRR.out
  have h3b : ((L.length : Int) == 0) = false := beq_false_of_ne (by omega)
  have HNA : Hid (¬ BadArg L s) := fun h => by rcases h with h | h | h <;> omega
  by_cases h4 : 8 < L.length
  · have HC : Hid (CodeIs L s 5) := .inr ⟨HNA.out, .inl ⟨h4, rfl⟩⟩
    have HRR := Lib.hid (HR.out 5 w HC.out (Below.refl _ _))
    have d1 : decide ((8 : Int) < (L.length : Int)) = true := decide_eq_true (by omega)
    have d2 : decide (8 < L.length) = true := decide_eq_true h4
    go_enter Tryz.func19, Tryz.ntmps19
    go_wp2_with fail
    exact HRR.out
  have d1 : decide ((8 : Int) < (L.length : Int)) = false := decide_eq_false (by omega)
  have d2 : decide (8 < L.length) = false := decide_eq_false h4
  have H4 : Hid (¬ 8 < L.length) := h4
  have HB0 : Hid (Below w.heap.size w w) := Below.refl _ _
  have HN0 : Hid (∀ j, j < 0 → nameL (L.getD j zInp).name = true) := fun j h => by omega
  clear h3 h4
  go_enter Tryz.func19, Tryz.ntmps19
  go_wp2_with fail
  clear h3b d1 d2
  go_loopw [26] (fun i wr => ∃ k : Nat, k ≤ L.length ∧ i = .int .i64 k ∧ Hid (∀ j, j < k → nameL (L.getD j zInp).name = true) ∧ Hid (Below w.heap.size w wr)) (fun i _ => L.length - (intOf i).toNat)
  case atStart => exact ⟨0, by omega, rfl, HN0, HB0⟩
  case round =>
    obtain ⟨k, hk, rfl, HN, HB⟩ := hrel
    clear HN0 HB0
    by_cases hlt : k < L.length
    · obtain ⟨fb, off, rfl, hbl, hx⟩ := inps_one (HS.out.below HB.out) hlt
      obtain ⟨k0, k1⟩ := inp_cells hlt hx
      have hby := HS.out.byte _ (List.getElem_mem hlt)
      have hgd := getI hlt
      obtain ⟨f, hfe⟩ : ∃ f, f = L[k] := ⟨_, rfl⟩
      rw [← hfe] at k0 k1 hgd hby
      have hnz : (strOf f.name).size ≤ 9223372036854775807 := by rw [strOf_size]; omega
      have HP := Lib.hid (fun w (hm : Mx w) => right_path16 (strOf f.name) hnz w hm)
      obtain ⟨q, hq⟩ : ∃ q, q = nameB (strOf f.name).data.toList := ⟨_, rfl⟩
      rw [← hq] at HP
      have HQ : Hid (nameL (L.getD k zInp).name = q) := by show _ = _; rw [hgd, nameL_eq, ← hq]
      obtain ⟨A, hA⟩ : ∃ A, A = strOf f.name := ⟨_, rfl⟩
      rw [← hA] at k0 HP
      obtain ⟨n2, hn2⟩ : ∃ n2, n2 = f.b.length := ⟨_, rfl⟩
      rw [← hn2] at k1
      have HBA : Hid (Below wr.heap.size wr (wr.alloc (.cells #[.string A, .slice f.a n2 f.c] 54))) := (Below.refl _ _).alloc (Nat.le_refl _) _
      have HA0 : Hid ((wr.alloc (.cells #[.string A, .slice f.a n2 f.c] 54)).cell? ⟨wr.heap.size, 0, none⟩ = some (.string A)) := by show _ = _; rw [World.cell?_alloc_new]; rfl
      clear hx hby hgd hfe hnz hq hA hn2
      go_upto_region 8 with fail
      have HBX := Lib.hid (HB.out.trans (HBA.out.mono HB.out.size))
      have r0 := HA0.out
      have HPX := Lib.hid (HP.out _ (HM.out.below HBX.out))
      generalize wr.alloc (.cells #[.string A, .slice f.a n2 f.c] 54) = w7 at *
      clear HA0 HP HBA k0 k1
      cases q
      · have HC : Hid (CodeIs L s 12) := .inr ⟨HNA.out, .inr ⟨H4.out, .inl ⟨⟨k, hlt, HQ.out⟩, rfl⟩⟩⟩
        go_wp2_with (go_at_call 38; refine HPX.out.mono ?_; rintro e w2 ⟨rfl, hb2⟩; have HB2 := Lib.hid (HBX.out.trans (hb2.mono HBX.out.size)); clear hb2)
        exact HR.out 12 _ HC.out HB2.out
      · have HN2 : Hid (∀ j, j < k + 1 → nameL (L.getD j zInp).name = true) := fun j hj => by
          by_cases e : j = k
          · subst e; exact HQ.out
          · exact HN.out j (by omega)
        go_wp2_with (go_at_call 38; refine HPX.out.mono ?_; rintro e w2 ⟨rfl, hb2⟩; have HB2 := Lib.hid (HBX.out.trans (hb2.mono HBX.out.size)); clear hb2)
        go_roundw
        case rel => exact ⟨k + 1, by omega, by go_num, HN2, HB2⟩
        case measure => simp [intOf]; omega
    · obtain rfl : k = L.length := by omega
      have HNB : Hid (¬ BadName L) := fun ⟨j, hj, e⟩ => by rw [HN.out j hj] at e; cases e
      have HT0 : Hid (∀ j i, j < 0 → i < j → (L.getD i zInp).name ≠ (L.getD j zInp).name) := fun j i h => by omega
      clear HN hk hlt
      have HB1 := HB
      clear HB
      go_wp2_with fail
      go_loopw [7, 37] (fun n i wr => ∃ k N : Nat, k ≤ L.length ∧ i = .int .i64 k ∧ n = .int .i64 N ∧ N = cntOf L s k ∧ Hid (∀ j i, j < k → i < j → (L.getD i zInp).name ≠ (L.getD j zInp).name) ∧ Hid (Below w.heap.size w wr)) (fun _ i _ => L.length - (intOf i).toNat)
      case atStart => exact ⟨0, 0, by omega, rfl, rfl, rfl, HT0, HB1⟩
      case round =>
        obtain ⟨k, N, hk, rfl, rfl, hN, HT, HB⟩ := hrel
        clear HT0 HB1
        by_cases hlt : k < L.length
        · have hN3 : N ≤ 30000 := by rw [hN]; exact HF.out.cnt s (by omega)
          obtain ⟨fb, off, rfl, hbl, hx⟩ := inps_one (HS.out.below HB.out) hlt
          obtain ⟨k0, k1⟩ := inp_cells hlt hx
          have hby := HS.out.byte _ (List.getElem_mem hlt)
          have hgd := getI hlt
          have hone := HF.out.one hlt
          rw [hgd] at hone
          obtain ⟨f, hfe⟩ : ∃ f, f = L[k] := ⟨_, rfl⟩
          rw [← hfe] at k0 k1 hgd hby hone
          have hfl : f.b.length ≤ 30000 := hone.1
          have HCT := Lib.hid (fun (w : World) => cutCount_any (f.b.length : Int) s w ⟨by omega, by omega⟩ ⟨by omega, by omega⟩)
          have hcl := cntN_le (f.b.length : Int) s
          obtain ⟨c, hc⟩ : ∃ c, c = cntN (f.b.length : Int) s := ⟨_, rfl⟩
          rw [← hc] at HCT hcl
          have hcl2 : c ≤ 30000 := by omega
          have HNX : Hid (cntOf L s (k + 1) = N + c) := by
            show cntOf L s k + cntN (L.getD k zInp).b.length s = _
            rw [hgd, ← hc, hN]
          have HGD := Lib.hid hgd
          obtain ⟨A, hA⟩ : ∃ A, A = strOf f.name := ⟨_, rfl⟩
          obtain ⟨n2, hn2⟩ : ∃ n2, n2 = f.b.length := ⟨_, rfl⟩
          have HBA : Hid (Below wr.heap.size wr (wr.alloc (.cells #[.string A, .slice f.a n2 f.c] 54))) := (Below.refl _ _).alloc (Nat.le_refl _) _
          have hg0 : (wr.alloc (.cells #[.string A, .slice f.a n2 f.c] 54)).heap[wr.heap.size]? = some (.cells #[.string A, .slice f.a n2 f.c] 54 (0, 0)) := heap_alloc_last wr _
          rw [← hA] at k0
          rw [← hn2] at k1 HCT hfl
          have HAE := Lib.hid hA
          have hlen : (L.take k).length = k := by rw [List.length_take]; omega
          have hfr := inps_front (some ⟨fb, off, none⟩) L.length cap k (by omega)
          have HBYN := Lib.hid hby.1
          clear hx hby hgd hfe hone hcl hc hN hn2 hA
          go_upto_region 15 with fail
          obtain ⟨g, hg⟩ : ∃ g, g = wr.heap.size := ⟨_, rfl⟩
          have HBX := Lib.hid (HB.out.trans (HBA.out.mono HB.out.size))
          rw [← hg] at hg0 ⊢
          generalize wr.alloc (.cells #[.string A, .slice f.a n2 f.c] 54) = w7 at *
          clear HBA hg k0 k1
          have HG7 := Lib.hid hg0
          have r0 : w7.cell? ⟨g, 0, none⟩ = some (.string A) := by rw [cell_of_block hg0]; rfl
          have hgl : g < w7.heap.size := (Array.getElem?_eq_some_iff.1 hg0).1
          have kr0 := cell_regrown r0
          have hHas := fun d os => has_any16 (some ⟨fb, off, none⟩) cap (L.take k) f.name HBYN.out (Go.Sort.grow (redrawn w7 d) os) (((HS.out.below HBX.out).take k (by omega)).below (below_regrown w7 d os))
          rw [hlen, ← HAE.out] at hHas
          clear hg0
          by_cases p3 : ∃ j, j < k ∧ ((L.take k).getD j zInp).name = f.name
          · have CH := fun d os => Calls.regrown_of (v := .bool true) ((hHas d os).mono fun e w' ⟨⟨r, he, hr⟩, hb⟩ => ⟨by rw [he, hr.2 p3], hb⟩)
            have HC : Hid (CodeIs L s 8) := .inr ⟨HNA.out, .inr ⟨H4.out, .inr ⟨HNB.out, .inl ⟨by
              obtain ⟨j, hj, hje⟩ := p3
              refine ⟨k, j, hlt, hj, ?_⟩
              rw [HGD.out, ← hje]
              simp [List.getD, hj], rfl⟩⟩⟩⟩
            have HRR := Lib.hid (fun w' h => HR.out 8 w' HC.out h)
            clear hHas p3
            refine wp_region_quiet_below mixed (by kernel_rfl) ?_
            repeat (first | go_big_quiet_step (exact CH _ _) | quiet_step (exact CH _ _))
            refine wpQuiet_nil ?_
            intro _ hw'
            obtain ⟨⟨dq, osq⟩, hw''⟩ := hw'
            subst hw''
            have HBQ := Lib.hid (below_regrown w7 dq osq)
            go_wp2_with fail
            exact HRR.out _ (HBX.out.trans (HBQ.out.mono HBX.out.size))
          · have CH := fun d os => Calls.regrown_of (v := .bool false) ((hHas d os).mono fun e w' ⟨⟨r, he, hr⟩, hb⟩ => ⟨by rw [he, Bool.eq_false_iff.2 fun h => p3 (hr.1 h)], hb⟩)
            have HT2 : Hid (∀ j i, j < k + 1 → i < j → (L.getD i zInp).name ≠ (L.getD j zInp).name) := fun j i hj hi => by
              by_cases e : j = k
              · subst e
                intro he
                exact p3 ⟨i, hi, by rw [← HGD.out, ← he]; simp [List.getD, hi]⟩
              · exact HT.out j i (by omega) hi
            clear hHas p3
            refine wp_region_quiet_below mixed (by kernel_rfl) ?_
            repeat (first | go_big_quiet_step (exact CH _ _) | quiet_step (exact CH _ _))
            refine wpQuiet_nil ?_
            intro _ hw'
            obtain ⟨⟨dq, osq⟩, hw''⟩ := hw'
            subst hw''
            have HBQ := Lib.hid (below_regrown w7 dq osq)
            have r1 : (Go.Sort.grow (redrawn w7 dq) osq).cell? ⟨g, 1, none⟩ = some (.slice f.a n2 f.c) := by rw [cell_of_block ((HBQ.out.block g hgl).trans HG7.out)]; rfl
            generalize Go.Sort.grow (redrawn w7 dq) osq = w8 at *
            clear CH r0 kr0
            go_wp2_with (go_at_call 40; refine (HCT.out _).mono ?_; rintro e w' ⟨rfl, hw⟩; obtain rfl := hw)
            go_roundw
            case rel => exact ⟨k + 1, N + c, by omega, by go_num, by go_num, HNX.out.symm, HT2, HBX.out.trans (HBQ.out.mono HBX.out.size)⟩
            case measure => simp [intOf]; omega
        · obtain rfl : k = L.length := by omega
          have HNT : Hid (¬ Twice L) := fun ⟨j, i, hj, hi, e⟩ => HT.out j i hj hi e
          have hN3 : N ≤ 30000 := by rw [hN]; exact HF.out.cnt s (by omega)
          by_cases h5 : 64 < N
          · have d1 : decide ((64 : Int) < (N : Int)) = true := decide_eq_true (by omega)
            have d2 : decide (64 < N) = true := decide_eq_true h5
            have HC : Hid (CodeIs L s 5) := .inr ⟨HNA.out, .inr ⟨H4.out, .inr ⟨HNB.out, .inr ⟨HNT.out, .inl ⟨by rw [← hN]; exact h5, rfl⟩⟩⟩⟩⟩
            have HRR := Lib.hid (HR.out 5 _ HC.out HB.out)
            clear hN
            go_wp2_with fail
            exact HRR.out
          · have d1 : decide ((64 : Int) < (N : Int)) = false := decide_eq_false (by omega)
            have d2 : decide (64 < N) = false := decide_eq_false h5
            have HC : Hid (CodeIs L s 0) := .inr ⟨HNA.out, .inr ⟨H4.out, .inr ⟨HNB.out, .inr ⟨HNT.out, .inr ⟨by rw [← hN]; exact h5, rfl⟩⟩⟩⟩⟩
            have HRR := Lib.hid (HR.out 0 _ HC.out HB.out)
            clear hN
            go_wp2_with fail
            exact HRR.out
end Go.Proofs.YtcopjbapglndgaaGreatDoor
end
