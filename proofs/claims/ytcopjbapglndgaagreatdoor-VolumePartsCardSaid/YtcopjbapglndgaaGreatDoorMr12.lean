/-
  Names, plainly: the parts of a name between the strokes; which names may be. No program in this text.
  A set (api.Set): plainly, which are formed; in memory: its files, its slices, its three cells.
  Package packet: readSums.
  Package packet: a packet in a block that is read into.
  Package packet: read.
  Package packet: Decode.
  Package packet: blank and plain.
  Package packet: plain.
  The shelf's contract on bytes.Join, laid at this dump.
-/
import Derived.Test.YtcopjbapglndgaaGreatDoorMr11
import Derived.Lib.Split
import Derived.Lib.SplitLaws
import Derived.Lib.Strings
import Derived.Shelf.Bytes.SlJoin
import Derived.Test.YtcopjbapglndgaaGreatDoorRows
section
namespace Go.Proofs.YtcopjbapglndgaaGreatDoor
set_option linter.unusedVariables false

/-- The parts of a name between the strokes. -/
def partsN : List UInt8 → List (List UInt8)
  | [] => [[]]
  | c :: r => if c = 47 then [] :: partsN r else match partsN r with
    | [] => [[c]]
    | p :: ps => (c :: p) :: ps
theorem partsN_ne (l : List UInt8) : partsN l ≠ [] := by
  cases l with
  | nil => simp [partsN]
  | cons c r => unfold partsN; split; · simp
                · cases partsN r <;> simp
theorem partsN_none : ∀ {a : List UInt8}, (∀ c ∈ a, c ≠ 47) → partsN a = [a]
  | [], _ => rfl
  | c :: r, h => by
    have h1 : c ≠ 47 := h c (by simp)
    have h2 := partsN_none (a := r) fun x hx => h x (by simp [hx])
    unfold partsN
    rw [if_neg h1, h2]
theorem partsN_cut : ∀ {a : List UInt8} (r : List UInt8), (∀ c ∈ a, c ≠ 47) → partsN (a ++ 47 :: r) = a :: partsN r
  | [], r, _ => by show partsN (47 :: r) = _; rw [partsN, if_pos rfl]
  | c :: t, r, h => by
    have h1 : c ≠ 47 := h c (by simp)
    have h2 := partsN_cut (a := t) r fun x hx => h x (by simp [hx])
    show partsN (c :: (t ++ 47 :: r)) = _
    rw [partsN, if_neg h1, h2]
theorem partsN_len : ∀ (l : List UInt8), (partsN l).length ≤ l.length + 1
  | [] => by simp [partsN]
  | c :: r => by
    have := partsN_len r
    unfold partsN
    split
    · simpa using this
    · cases h : partsN r with
      | nil => simp
      | cons p ps => rw [h] at this; simp at this ⊢; omega
theorem index47 : ∀ (s : List UInt8), (Lib.index s [47] = -1 ∧ ∀ c ∈ s, c ≠ 47) ∨ ∃ i : Nat, Lib.index s [47] = i ∧ i < s.length ∧ (∀ c ∈ s.take i, c ≠ 47) ∧ s = s.take i ++ 47 :: s.drop (i + 1)
  | [] => .inl ⟨by decide, by simp⟩
  | c :: r => by
    by_cases h : c = 47
    · subst h
      exact .inr ⟨0, by unfold Lib.index; rw [if_pos (by simp [List.isPrefixOf])]; rfl, by simp, by simp, by simp⟩
    · have hp : ¬ List.isPrefixOf [47] (c :: r) = true := by
        intro e
        simp [List.isPrefixOf] at e
        exact h e.symm
      rcases index47 r with ⟨h1, h2⟩ | ⟨i, h1, h2, h3, h4⟩
      · refine .inl ⟨?_, fun x hx => ?_⟩
        · unfold Lib.index
          rw [if_neg hp, h1]; rfl
        · rcases List.mem_cons.1 hx with rfl | hx
          · exact h
          · exact h2 x hx
      · refine .inr ⟨i + 1, ?_, by simpa using h2, fun x hx => ?_, ?_⟩
        · unfold Lib.index
          rw [if_neg hp, h1, if_neg (by simp)]; rfl
        · rw [List.take_succ_cons] at hx
          rcases List.mem_cons.1 hx with rfl | hx
          · exact h
          · exact h3 x hx
        · rw [List.take_succ_cons, List.drop_succ_cons, List.cons_append, ← h4]
theorem splitK_parts : ∀ (n : Nat) (s : List UInt8), s.length ≤ n → Lib.splitK [47] 0 (Lib.count s [47]) s = partsN s := by
  intro n
  induction n with
  | zero =>
    intro s hs
    obtain rfl : s = [] := List.length_eq_zero_iff.1 (by omega)
    rfl
  | succ n ih =>
    intro s hs
    rcases index47 s with ⟨h1, h2⟩ | ⟨i, h1, h2, h3, h4⟩
    · rw [Lib.count_miss h1, partsN_none h2]; rfl
    · rw [Lib.count_hit (by simp) h1, Nat.add_comm, Lib.splitK, if_neg (by rw [h1]; simp), h1]
      show s.take (i + 0) :: Lib.splitK [47] 0 (Lib.count (s.drop (i + 1)) [47]) (s.drop (i + 1)) = _
      rw [ih _ (by simp; omega)]
      conv => rhs; rw [h4]
      rw [partsN_cut _ h3]; rfl
theorem split_parts (s : ByteArray) : (Lib.splitB ⟨#[47]⟩ 0 (Lib.countB s ⟨#[47]⟩) s).map (·.data.toList) = partsN s.data.toList := by
  rw [Lib.splitB_data]
  exact splitK_parts _ _ (Nat.le_refl _)
theorem count_parts (s : ByteArray) : Lib.countB s ⟨#[47]⟩ + 1 = (partsN s.data.toList).length := by
  rw [← split_parts, List.length_map]
  exact (Lib.splitB_all ⟨#[47]⟩ (by decide) 0 _ s rfl).symm

/-- A byte that a name may have. -/
def letB (c : Nat) : Bool := (decide (97 ≤ c) && decide (c ≤ 122)) || (decide (48 ≤ c) && decide (c ≤ 57)) || decide (c = 46) || decide (c = 95) || decide (c = 45)
def partB (p : List UInt8) : Bool := !(p == []) && !(p == [46]) && !(p == [46, 46])
/-- Whether a file may have the name. -/
def nameB (l : List UInt8) : Bool := decide (l.length ≤ 40) && !Lib.hasSuffix l [46, 103, 121, 115] && l.all (fun c => letB c.toNat || decide (c.toNat = 47)) && (partsN l).all partB && !((partsN l).head? == some [111, 108, 100]) && !((partsN l).head? == some [116, 109, 112])
theorem nameB_nil : nameB [] = false := by decide +kernel
theorem nameB_iff (l : List UInt8) : nameB l = true ↔ l.length ≤ 40 ∧ Lib.hasSuffix l [46, 103, 121, 115] = false ∧ (∀ c ∈ l, letB c.toNat = true ∨ c.toNat = 47) ∧ (∀ p ∈ partsN l, partB p = true) ∧ (partsN l).head? ≠ some [111, 108, 100] ∧ (partsN l).head? ≠ some [116, 109, 112] := by
  unfold nameB
  simp only [Bool.and_eq_true, decide_eq_true_eq, Bool.not_eq_true', List.all_eq_true, Bool.or_eq_true, beq_eq_false_iff_ne, ne_eq, and_assoc]
end Go.Proofs.YtcopjbapglndgaaGreatDoor
end

section
namespace Go.Proofs.YtcopjbapglndgaaGreatDoor
open Go.ChangeShapes Go.WideShapes Go.ChangeAt Go.RowKit Go.Joins
set_option linter.unusedVariables false

/-- What a set holds. -/
structure St where
  slice : Int
  files : List Fil
  slices : List Sm
def zSm : Sm := ⟨0, 0, []⟩
def nameL (l : List Nat) : Bool := nameB (l.map fun k => UInt8.ofNat k)
/-- How long a slice is to be. -/
def wantI (s z : Int) (i : Nat) : Int := min s (z - (i : Int) * s)
structure FileOk (S : St) (n k : Nat) : Prop where
  size : 0 ≤ (S.files.getD k zFil).size
  first : (S.files.getD k zFil).first = (n : Int)
  name : nameL (S.files.getD k zFil).name = true
  once : ∀ j, j < k → (S.files.getD j zFil).name ≠ (S.files.getD k zFil).name
  room : n + cntN (S.files.getD k zFil).size S.slice ≤ S.slices.length
  cut : ∀ i, i < cntN (S.files.getD k zFil).size S.slice → (S.slices.getD (n + i) zSm).n = wantI S.slice (S.files.getD k zFil).size i
/-- The first k files are right, and have n slices. -/
inductive Good (S : St) : Nat → Nat → Prop
  | zero : Good S 0 0
  | next {k n : Nat} (g : Good S k n) (h : k < S.files.length) (ok : FileOk S n k) : Good S (k + 1) (n + cntN (S.files.getD k zFil).size S.slice)
theorem Good.one {S : St} {k : Nat} : ∀ {n m : Nat}, Good S k n → Good S k m → n = m := by
  induction k with
  | zero => intro n m h1 h2; cases h1; cases h2; rfl
  | succ k ih =>
    intro n m h1 h2
    cases h1 with
    | next g1 _ _ => cases h2 with
      | next g2 _ _ => rw [ih g1 g2]
theorem Good.prev {S : St} {k m : Nat} (h : Good S (k + 1) m) : ∃ n, Good S k n ∧ k < S.files.length ∧ FileOk S n k ∧ m = n + cntN (S.files.getD k zFil).size S.slice := by
  cases h with
  | next g h ok => exact ⟨_, g, h, ok, rfl⟩
theorem Good.room {S : St} {k n : Nat} (h : Good S k n) : n ≤ S.slices.length := by
  cases h with
  | zero => exact Nat.zero_le _
  | next g h ok => exact ok.room
theorem Good.le {S : St} {k n : Nat} (h : Good S k n) : k ≤ S.files.length := by
  cases h with
  | zero => exact Nat.zero_le _
  | next g h ok => exact h
/-- Of any fewer files too. -/
theorem Good.down {S : St} {k m : Nat} (h : Good S k m) : ∀ {j : Nat}, j ≤ k → ∃ n, Good S j n ∧ n ≤ m := by
  induction h with
  | zero => intro j hj; obtain rfl : j = 0 := by omega
            exact ⟨0, .zero, Nat.le_refl _⟩
  | @next k n g h ok ih =>
    intro j hj
    by_cases e : j = k + 1
    · subst e; exact ⟨_, .next g h ok, Nat.le_refl _⟩
    · obtain ⟨n', g', h'⟩ := ih (j := j) (by omega)
      exact ⟨n', g', by omega⟩
structure FormedP (S : St) : Prop where
  s1 : 1 ≤ S.slice
  s2 : S.slice ≤ 256
  m1 : S.slices.length ≤ 64
  f1 : 1 ≤ S.files.length
  f2 : S.files.length ≤ 8
  good : Good S S.files.length S.slices.length
/-- If a file isn't right, the set isn't formed. -/
theorem not_formed {S : St} {k n : Nat} (g : Good S k n) (h : k < S.files.length) (hf : FormedP S) : FileOk S n k := by
  obtain ⟨n', g', _⟩ := hf.good.down (j := k + 1) h
  obtain ⟨n2, g2, _, ok, _⟩ := g'.prev
  rw [g.one g2]; exact ok

/-- A file's 35 cells, from a place on. -/
def FilAt (w : World) (p off : Nat) (f : Fil) : Prop := ∀ j, j < 35 → w.cell? ⟨p, off + j, none⟩ = some (filV f j)
theorem FilAt.below {w w' : World} {p off : Nat} {f : Fil} (h : FilAt w p off f) (k : Below w.heap.size w w') : FilAt w' p off f := fun j hj => by
  have hp : p < w.heap.size := World.block_lt_of_cell? w _ (h 0 (by omega))
  exact (k.cell (p := ⟨p, off + j, none⟩) hp).trans (h j hj)
/-- The slice '.slice a l.length cap' reads as these files. -/
structure Fils (w : World) (a : Option Addr) (cap : Nat) (l : List Fil) : Prop where
  rng : ∀ x ∈ l, FilOk x
  len : l.length ≤ cap
  most : cap ≤ maxLen
  here : l = [] ∨ ∃ b off, a = some ⟨b, off, none⟩ ∧ b < w.heap.size ∧ ∀ i (h : i < l.length), FilAt w b (off + i * 35) l[i]
theorem Fils.below {w w' : World} {a : Option Addr} {cap : Nat} {l : List Fil} (h : Fils w a cap l) (k : Below w.heap.size w w') : Fils w' a cap l :=
  ⟨h.rng, h.len, h.most, by
    rcases h.here with e | ⟨b, off, e, hb, hc⟩
    · exact .inl e
    · exact .inr ⟨b, off, e, Nat.lt_of_lt_of_le hb k.size, fun i hi => (hc i hi).below k⟩⟩
theorem fils_one {w : World} {a : Option Addr} {cap : Nat} {l : List Fil} (h : Fils w a cap l) {i : Nat} (hi : i < l.length) : ∃ b off, a = some ⟨b, off, none⟩ ∧ b < w.heap.size ∧ FilAt w b (off + i * 35) l[i] := by
  rcases h.here with rfl | ⟨b, off, e, hb, hc⟩
  · simp at hi
  · exact ⟨b, off, e, hb, hc i hi⟩
theorem Fils.lt {w : World} {a : Option Addr} {cap : Nat} {l : List Fil} (h : Fils w a cap l) : l.length ≤ 9223372036854775807 := by
  have h1 := h.len; have h2 := h.most; unfold maxLen at h2; omega
/-- A set's three cells. -/
def setV (S : St) (fa : Option Addr) (fc : Nat) (sa : Option Addr) (sc : Nat) (j : Nat) : Value :=
  if j = 0 then .int .i64 S.slice else if j = 1 then .slice fa S.files.length fc else .slice sa S.slices.length sc
structure SetAt (w : World) (S : St) (fa : Option Addr) (fc : Nat) (sa : Option Addr) (sc : Nat) : Prop where
  slice : i64R S.slice
  files : Fils w fa fc S.files
  slices : Sms w sa sc S.slices
theorem SetAt.below {w w' : World} {S : St} {fa : Option Addr} {fc : Nat} {sa : Option Addr} {sc : Nat} (h : SetAt w S fa fc sa sc) (k : Below w.heap.size w w') : SetAt w' S fa fc sa sc := ⟨h.slice, h.files.below k, h.slices.below k⟩
theorem strOf_data {l : List Nat} : (strOf l).data.toList = l.map fun k => UInt8.ofNat k := by
  unfold strOf strOfNums
  simp
theorem nameL_eq (l : List Nat) : nameL l = nameB (strOf l).data.toList := by rw [strOf_data]; rfl
end Go.Proofs.YtcopjbapglndgaaGreatDoor
end

section
namespace Go.Proofs.YtcopjbapglndgaaGreatDoor
open Go.ChangeShapes Go.WideShapes Go.ChangeAt Go.RowKit Go.Joins
set_option linter.unusedVariables false

theorem read_n {l : List Nat} {n : Nat} (h1 : 1 ≤ n) (h2 : n ≤ 6) (h : n ≤ l.length) : ansN (some l) (n : Int) = numN (l.take n) ∧ restN (some l) (n : Int) = some (l.drop n) := by
  have e : gN (some l) (n : Int) = some (l.take n, l.drop n) := by
    unfold gN takeI
    rw [if_pos ⟨by omega, by omega⟩]
    simp only [Option.bind_some]
    rw [if_pos ⟨by omega, by omega⟩]
    simp
  exact ⟨by unfold ansN; rw [e]; rfl, by unfold restN; rw [e]; rfl⟩
theorem read_r {l : List Nat} {n : Nat} (h : n ≤ l.length) : ansR (some l) (n : Int) = l.take n ∧ restR (some l) (n : Int) = some (l.drop n) := by
  have e : takeI (some l) (n : Int) = some (l.take n, l.drop n) := by
    unfold takeI
    simp only [Option.bind_some]
    rw [if_pos ⟨by omega, by omega⟩]
    simp
  exact ⟨by unfold ansR; rw [e]; rfl, by unfold restR; rw [e]; rfl⟩
theorem Row.fr {X : Nat → Prop} {w w' : World} {g n k : Nat} {ty : TypeId} {F : Nat → Value} (h : Row w g ty n k F) (f : Fr X w w') (hx : ¬ X g) : Row w' g ty n k F := by
  have hl := h.lt
  obtain ⟨cs, h1, h2, h3⟩ := h
  exact ⟨cs, (f.block g hl hx).trans h1, h2, h3⟩
theorem u32_wrap (n : Nat) (h : n < 4294967296) : IntKind.u32.wrap (n : Int) = (n : Int) := by
  simp [IntKind.wrap, IntKind.signed, IntKind.bits]
  omega

end Go.Proofs.YtcopjbapglndgaaGreatDoor
end

section
namespace Go.Proofs.YtcopjbapglndgaaGreatDoor
open Go.ChangeShapes Go.WideShapes Go.ChangeAt Go.RowKit Go.Joins
set_option linter.unusedVariables false

section
variable (p : Pk) (sa : Option Addr) (sc : Nat) (da : Option Addr) (dc : Nat)
theorem pkV_kind (v : Int) : ∀ j, j < 51 → pkV { p with kind := v } sa sc da dc j = if j = 8 then .int .i64 v else pkV p sa sc da dc j := fun j hj => by
  by_cases h : j = 8
  · subst h; rfl
  · simp only [pkV, h, if_false]
theorem pkV_slice (v : Int) : ∀ j, j < 51 → pkV { p with slice := v } sa sc da dc j = if j = 9 then .int .i64 v else pkV p sa sc da dc j := fun j hj => by
  by_cases h : j = 9
  · subst h; rfl
  · simp only [pkV, h, if_false]
theorem pkV_files (v : Int) : ∀ j, j < 51 → pkV { p with files := v } sa sc da dc j = if j = 10 then .int .i64 v else pkV p sa sc da dc j := fun j hj => by
  by_cases h : j = 10
  · subst h; rfl
  · simp only [pkV, h, if_false]
theorem pkV_slices (v : Int) : ∀ j, j < 51 → pkV { p with slices := v } sa sc da dc j = if j = 11 then .int .i64 v else pkV p sa sc da dc j := fun j hj => by
  by_cases h : j = 11
  · subst h; rfl
  · simp only [pkV, h, if_false]
theorem pkV_index (v : Int) : ∀ j, j < 51 → pkV { p with index := v } sa sc da dc j = if j = 12 then .int .i64 v else pkV p sa sc da dc j := fun j hj => by
  by_cases h : j = 12
  · subst h; rfl
  · simp only [pkV, h, if_false]
theorem pkV_id (v : Nat) : ∀ j, j < 51 → pkV { p with id := v } sa sc da dc j = if j = 49 then .int .u32 (v : Int) else pkV p sa sc da dc j := fun j hj => by
  by_cases h : j = 49
  · subst h; rfl
  · simp only [pkV, h, if_false]
theorem pkV_sums (v : List Sm) (sa' : Option Addr) (sc' : Nat) : ∀ j, j < 51 → pkV { p with sums := v } sa' sc' da dc j = if j = 48 then .slice sa' v.length sc' else pkV p sa sc da dc j := fun j hj => by
  by_cases h : j = 48
  · subst h; rfl
  · simp only [pkV, h, if_false]
theorem pkV_data (v : List Nat) (da' : Option Addr) (dc' : Nat) : ∀ j, j < 51 → pkV { p with data := v } sa sc da' dc' j = if j = 50 then .slice da' v.length dc' else pkV p sa sc da dc j := fun j hj => by
  by_cases h : j = 50
  · subst h; rfl
  · rw [if_neg h]
    unfold pkV
    (repeat' split) <;> first | rfl | (exfalso; omega)
theorem pkV_file (f g : Fil) (i : Nat) (v : Value) (hi : 13 ≤ i) (hi2 : i < 48) (hf : ∀ j, j < 35 → filV g j = if j = i - 13 then v else filV f j) : ∀ j, j < 51 → pkV { p with file := g } sa sc da dc j = if j = i then v else pkV { p with file := f } sa sc da dc j := fun j hj => by
  by_cases h : 13 ≤ j ∧ j < 48
  · rw [pkV_fil _ _ _ _ _ h.1 h.2, pkV_fil _ _ _ _ _ h.1 h.2, hf _ (by omega)]
    by_cases e : j = i
    · rw [if_pos e, if_pos (by omega)]
    · rw [if_neg e, if_neg (by omega)]
  · rw [if_neg (by omega)]
    unfold pkV
    (repeat' split) <;> first | rfl | (exfalso; omega)
end
theorem filV_name (f : Fil) (l : List Nat) : ∀ j, j < 35 → filV { f with name := l } j = if j = 13 - 13 then .string (strOf l) else filV f j := fun j hj => by
  by_cases h : j = 0
  · subst h; rfl
  · simp only [filV, h, if_false, Nat.sub_self]
theorem filV_size (f : Fil) (v : Int) : ∀ j, j < 35 → filV { f with size := v } j = if j = 14 - 13 then .int .i64 v else filV f j := fun j hj => by
  by_cases h : j = 1
  · subst h; rfl
  · rw [if_neg h]
    simp only [filV, h, if_false]
theorem filV_first (f : Fil) (v : Int) : ∀ j, j < 35 → filV { f with first := v } j = if j = 47 - 13 then .int .i64 v else filV f j := fun j hj => by
  by_cases h : j = 34
  · subst h; rfl
  · rw [if_neg h]
    unfold filV
    (repeat' split) <;> first | rfl | (exfalso; omega)
theorem ansN_lt {s : Option (List Nat)} (hb : ∀ l, s = some l → IsByte l) (n : Nat) (z : Int) (hz : z = (n : Int)) : ansN s z < 256 ^ n := by
  subst hz
  unfold ansN
  cases h : gN s (n : Int) with
  | none => simp; exact Nat.pow_pos (by omega)
  | some p =>
    obtain ⟨x, r⟩ := p
    obtain ⟨h1, h2⟩ := gN_some h
    simp only [Option.map_some, Option.getD_some]
    exact num_lt x (fun y hy => hb _ h1 y (by simp [hy])) h2
theorem restN_none_ans {s : Option (List Nat)} {z : Int} (h : restN s z = none) : ansN s z = 0 := by
  unfold restN at h
  unfold ansN
  cases hg : gN s z with
  | none => rfl
  | some p => rw [hg] at h; cases h
theorem restN_of_none (z : Int) : restN none z = none := by unfold restN gN takeI; split <;> rfl
/-- What copy leaves of 32 bytes that may not be there. -/
def dgOr (x : List Nat) : List Nat := if x.length = 32 then x else List.replicate 32 0
theorem raw_32 (s : Option (List Nat)) : (ansR s 32).length = 32 ∨ (ansR s 32 = [] ∧ restR s 32 = none) := by
  unfold ansR restR takeI
  cases s with
  | none => exact .inr ⟨rfl, rfl⟩
  | some l =>
    simp only [Option.bind_some]
    by_cases h : (0 : Int) ≤ 32 ∧ (32 : Int) ≤ (l.length : Int)
    · rw [if_pos h]
      refine .inl ?_
      simp
      omega
    · rw [if_neg h]
      exact .inr ⟨rfl, rfl⟩
/-- A digest copied into a packet's cells. -/
theorem pkV_digest (p : Pk) (sa : Option Addr) (sc : Nat) (da : Option Addr) (dc : Nat) (f : Fil) (x : List Nat) (hx : x.length = 32 ∨ x = []) (hd : f.dg = List.replicate 32 0) :
    ∀ j, j < 51 → (15 ≤ j ∧ j < 15 + x.length ∧ pkV { p with file := { f with dg := dgOr x } } sa sc da dc j = vOf x (j - 15)) ∨ ((j < 15 ∨ 15 + x.length ≤ j) ∧ j < 51 ∧ pkV { p with file := { f with dg := dgOr x } } sa sc da dc j = pkV { p with file := f } sa sc da dc j) := fun j hj => by
  rcases hx with hx | rfl
  · rw [hx]
    by_cases h : 15 ≤ j ∧ j < 47
    · refine .inl ⟨h.1, by omega, ?_⟩
      rw [pkV_fil _ _ _ _ _ (by omega) (by omega)]
      unfold filV dgOr
      rw [if_pos hx, if_neg (by omega), if_neg (by omega), if_pos (by omega), show j - 13 - 2 = j - 15 by omega]
    · refine .inr ⟨by omega, hj, ?_⟩
      by_cases h2 : 13 ≤ j ∧ j < 48
      · rw [pkV_fil _ _ _ _ _ h2.1 h2.2, pkV_fil _ _ _ _ _ h2.1 h2.2]
        unfold filV
        (repeat' split) <;> first | rfl | (exfalso; omega)
      · unfold pkV
        (repeat' split) <;> first | rfl | (exfalso; omega)
  · refine .inr ⟨by simp; omega, hj, ?_⟩
    have e : dgOr [] = f.dg := by rw [hd]; rfl
    rw [e]
end Go.Proofs.YtcopjbapglndgaaGreatDoor
end

section
namespace Go.Proofs.YtcopjbapglndgaaGreatDoor
open Go.ChangeShapes Go.WideShapes Go.ChangeAt Go.RowKit Go.Joins
set_option linter.unusedVariables false

set_option maxRecDepth 100000 in
theorem symbolic_any (n : Nat) (w : World) (hn : n ≤ 1000000) :
    Calls Tryz.prog 94 #[.int .i64 (n : Int)] w fun e w' => e = .returned (.bool (decide (1 ≤ n ∧ n ≤ 256))) ∧ w = w' := by
  have mixed : Tryz.prog.follows .mixedOrders = true := by kernel_rfl
  by_cases h : 1 ≤ n
  · have d1 : decide ((1 : Int) ≤ (n : Int)) = true := decide_eq_true (by omega)
    by_cases h2 : n ≤ 256
    · have d2 : decide ((n : Int) ≤ 256) = true := decide_eq_true (by omega)
      have HR : Hid (decide (1 ≤ n ∧ n ≤ 256) = true) := decide_eq_true ⟨h, h2⟩
      go_enter Tryz.func94, Tryz.ntmps94
      go_wp2_with fail
      go_ret
      exact ⟨ret_bool HR.out.symm, rfl⟩
    · have d2 : decide ((n : Int) ≤ 256) = false := decide_eq_false (by omega)
      have HR : Hid (decide (1 ≤ n ∧ n ≤ 256) = false) := decide_eq_false fun k => h2 k.2
      go_enter Tryz.func94, Tryz.ntmps94
      go_wp2_with fail
      go_ret
      exact ⟨ret_bool HR.out.symm, rfl⟩
  · have d1 : decide ((1 : Int) ≤ (n : Int)) = false := decide_eq_false (by omega)
    have HR : Hid (decide (1 ≤ n ∧ n ≤ 256) = false) := decide_eq_false fun k => h k.1
    go_enter Tryz.func94, Tryz.ntmps94
    go_wp2_with fail
    go_ret
    exact ⟨ret_bool HR.out.symm, rfl⟩

/-- What read answers. -/
def ReadPost (X : Nat → Prop) (w : World) (P : Nat) (set l : List Nat) (e : Ending) (w' : World) : Prop :=
  e = .returned (.bool (rdN set l).isSome) ∧ Fr (fun j => X j ∨ j = P) w w' ∧ ∀ q, rdN set l = some q → ∃ sa sc da dc, Row w' P 75 51 51 (pkV q sa sc da dc) ∧ PkAt w' q sa sc da dc ∧ (∀ p, sa = some p → w.heap.size ≤ p.block) ∧ ∀ p, da = some p → w.heap.size ≤ p.block
theorem readPost_none {X : Nat → Prop} {w w' : World} {P : Nat} {set l : List Nat} (h : rdN set l = none) (k : Fr (fun j => X j ∨ j = P) w w') : ReadPost X w P set l (.returned (.bool false)) w' := ⟨by rw [h]; rfl, k, fun q hq => by rw [h] at hq; cases hq⟩
theorem readPost_some {X : Nat → Prop} {w w' : World} {P : Nat} {set l : List Nat} {q : Pk} {sa : Option Addr} {sc : Nat} {da : Option Addr} {dc : Nat} (h : rdN set l = some q) (k : Fr (fun j => X j ∨ j = P) w w') (h1 : Row w' P 75 51 51 (pkV q sa sc da dc)) (h2 : PkAt w' q sa sc da dc) (h3 : ∀ p, sa = some p → w.heap.size ≤ p.block) (h4 : ∀ p, da = some p → w.heap.size ≤ p.block) : ReadPost X w P set l (.returned (.bool true)) w' :=
  ⟨by rw [h]; rfl, k, fun q' hq => by rw [h] at hq; cases hq; exact ⟨sa, sc, da, dc, h1, h2, h3, h4⟩⟩
theorem nil_sms (w : World) : Sms w none 0 [] := ⟨by simp, by simp, by simp, .inl rfl⟩
end Go.Proofs.YtcopjbapglndgaaGreatDoor
end

section
namespace Go.Proofs.YtcopjbapglndgaaGreatDoor
open Go.ChangeShapes Go.WideShapes Go.ChangeAt Go.RowKit Go.Joins
set_option linter.unusedVariables false

theorem results_cell_tmp2 {P : Program} {fn : Func} {p u v : Tmp} {ty : TypeId} (h : fn.results = #[.cell p ty, .tmp u, .tmp v]) (tmps : Array Value) (w : World) (g : Nat) (t : TypeId) (cs : Array Value) (fr : Nat × Nat) (d : TypeDesc)
    (hp : tmps.getD p undef = .pointer (some ⟨g, 0, none⟩)) (hg : w.heap[g]? = some (.cells cs t fr))
    (hu : P.underlying ty = some d) (hd : (match d with | .struct _ | .array _ _ => true | _ => false) = true) (hi : (P.info? ty).map (·.size) = some cs.size) (a b : Value) (ha : tmps.getD u undef = a) (hb : tmps.getD v undef = b) :
    (results fn tmps).run P w = .ok (.tuple #[.agg cs, a, b]) w := by
  have hp' : tmps[p]?.getD undef = .pointer (some ⟨g, 0, none⟩) := by simpa using hp
  have ha' : tmps[u]?.getD undef = a := by simpa using ha
  have hb' : tmps[v]?.getD undef = b := by simpa using hb
  simp [results, h, hp', ha', hb', asAddr, run_loadVar_row w g t ty cs fr d hg hu hd hi]
theorem PkAt.frame {w w' : World} {p : Pk} {sa : Option Addr} {sc : Nat} {da : Option Addr} {dc : Nat} {X : Nat → Prop} (h : PkAt w p sa sc da dc) (k : Fr X w w') (h1 : ∀ q, sa = some q → ¬ X q.block) (h2 : ∀ q, da = some q → ¬ X q.block) : PkAt w' p sa sc da dc := by
  refine ⟨h.okk, ⟨h.sums.rng, h.sums.len, h.sums.most, ?_⟩, h.data.of_block fun q hq hl => k.block _ (h.data.blk q hq hl) (h2 q hq)⟩
  rcases h.sums.here with e | ⟨b, off, e, hb, hc⟩
  · exact .inl e
  · refine .inr ⟨b, off, e, Nat.lt_of_lt_of_le hb k.size, fun i hi => ?_⟩
    have hbk : w'.heap[b]? = w.heap[b]? := k.block b hb (h1 _ e)
    obtain ⟨c1, c2, c3⟩ := hc i hi
    exact ⟨(World.cell?_of_block (a := ⟨b, _, none⟩) hbk).trans c1, (World.cell?_of_block (a := ⟨b, _, none⟩) hbk).trans c2, fun j hj => (World.cell?_of_block (a := ⟨b, _, none⟩) hbk).trans (c3 j hj)⟩
theorem oneCell_pk (p : Pk) (sa : Option Addr) (sc : Nat) (da : Option Addr) (dc : Nat) : (rowArr 51 (pkV p sa sc da dc)).all (·.oneCell') = true := by
  simp only [rowArr, List.all_toArray, List.all_map, List.all_eq_true]
  intro j _
  simp only [Function.comp]
  unfold pkV
  (repeat' split) <;> first | rfl | skip
  unfold filV
  (repeat' split) <;> rfl
def DecAns (w' : World) (e : Ending) : Dec → Prop
  | .ok p n => ∃ sa sc da dc, e = .returned (.tuple #[.agg (rowArr 51 (pkV p sa sc da dc)), .int .i64 (n : Int), .int .i64 0]) ∧ PkAt w' p sa sc da dc
  | .form => e = .returned (.tuple #[.agg (rowArr 51 (pkV zPk none 0 none 0)), .int .i64 0, .int .i64 2])
  | .sum => e = .returned (.tuple #[.agg (rowArr 51 (pkV zPk none 0 none 0)), .int .i64 0, .int .i64 11])
def DecPost (l : List Nat) (w : World) (e : Ending) (w' : World) : Prop := DecAns w' e (decN l) ∧ Below w.heap.size w w'

end Go.Proofs.YtcopjbapglndgaaGreatDoor
end

section
namespace Go.Proofs.YtcopjbapglndgaaGreatDoor
open Go.ChangeShapes Go.WideShapes Go.ChangeAt Go.RowKit Go.Joins
set_option linter.unusedVariables false

/-- Nothing of any kind is told. -/
def blankP (p : Pk) : Prop := p.slice = 0 ∧ p.files = 0 ∧ p.slices = 0 ∧ p.index = 0 ∧ p.file = zFil ∧ p.sums = [] ∧ p.id = 0 ∧ p.data = []
instance blankD (p : Pk) : Decidable (blankP p) := by
  have : Decidable (p.sums = []) := decidable_of_iff (p.sums.length = 0) List.length_eq_zero_iff
  have : Decidable (p.data = []) := decidable_of_iff (p.data.length = 0) List.length_eq_zero_iff
  unfold blankP
  exact inferInstance
/-- A kind that is one, and nothing of another one's. -/
def plainP (p : Pk) : Prop :=
  (p.kind = 1 ∧ blankP ⟨p.set, p.kind, 0, 0, 0, p.index, p.file, p.sums, p.id, p.data⟩) ∨ (p.kind = 2 ∧ blankP ⟨p.set, p.kind, p.slice, p.files, p.slices, 0, zFil, p.sums, p.id, p.data⟩) ∨
  (p.kind = 3 ∧ blankP ⟨p.set, p.kind, p.slice, p.files, p.slices, 0, p.file, [], p.id, p.data⟩) ∨ (p.kind = 4 ∧ (1 ≤ p.data.length ∧ p.data.length ≤ 256) ∧ blankP ⟨p.set, p.kind, p.slice, p.files, p.slices, p.index, p.file, p.sums, 0, []⟩)
instance plainD (p : Pk) : Decidable (plainP p) := by unfold plainP; exact inferInstance
def zF : Array Value := #[.string { data := #[] }, .int .i64 0, .int .u8 0, .int .u8 0, .int .u8 0, .int .u8 0, .int .u8 0, .int .u8 0, .int .u8 0, .int .u8 0, .int .u8 0, .int .u8 0, .int .u8 0, .int .u8 0, .int .u8 0, .int .u8 0, .int .u8 0, .int .u8 0, .int .u8 0, .int .u8 0, .int .u8 0, .int .u8 0, .int .u8 0, .int .u8 0, .int .u8 0, .int .u8 0, .int .u8 0, .int .u8 0, .int .u8 0, .int .u8 0, .int .u8 0, .int .u8 0, .int .u8 0, .int .u8 0, .int .i64 0]
theorem zF_eq : zF = rowArr 35 (filV zFil) := rfl

set_option maxRecDepth 1000000 in
set_option maxHeartbeats 4000000 in
theorem blank_any (p : Pk) (sa : Option Addr) (sc : Nat) (da : Option Addr) (dc : Nat) (w : World) (hf : FilOk p.file) (hsl : p.sums.length ≤ 9223372036854775807) (hdl : p.data.length ≤ 9223372036854775807) :
    Calls Tryz.prog 95 #[.agg (rowArr 51 (pkV p sa sc da dc))] w fun e w' => e = .returned (.bool (decide (blankP p))) ∧ Below w.heap.size w w' := by
  have mixed : Tryz.prog.follows .mixedOrders = true := by kernel_rfl
  have HB : Hid (Below w.heap.size w (w.alloc (.cells (rowArr 51 (pkV p sa sc da dc)) 75))) := (Below.refl _ _).alloc (Nat.le_refl _) _
  have HP : Hid (PkBlk (w.alloc (.cells (rowArr 51 (pkV p sa sc da dc)) 75)) w.heap.size p sa sc da dc) := PkBlk.new w p sa sc da dc
  obtain ⟨arr, harr⟩ : ∃ arr, arr = rowArr 51 (pkV p sa sc da dc) := ⟨_, rfl⟩
  rw [← harr] at HB HP ⊢
  obtain ⟨FA, hFA⟩ : ∃ FA, FA = rowArr 35 (filV p.file) := ⟨_, rfl⟩
  have hnf : ∀ w, (binOp .eql 58 (.agg FA) (.agg #[.string { data := #[] }, .int .i64 0, .int .u8 0, .int .u8 0, .int .u8 0, .int .u8 0, .int .u8 0, .int .u8 0, .int .u8 0, .int .u8 0, .int .u8 0, .int .u8 0, .int .u8 0, .int .u8 0, .int .u8 0, .int .u8 0, .int .u8 0, .int .u8 0, .int .u8 0, .int .u8 0, .int .u8 0, .int .u8 0, .int .u8 0, .int .u8 0, .int .u8 0, .int .u8 0, .int .u8 0, .int .u8 0, .int .u8 0, .int .u8 0, .int .u8 0, .int .u8 0, .int .u8 0, .int .u8 0, .int .i64 0])).run Tryz.prog w = .ok (.bool (decide (p.file = zFil))) w := fun w => by
    show (binOp .eql 58 (.agg FA) (.agg zF)).run Tryz.prog w = _
    rw [run_eql_struct, hFA, zF_eq, eq_file hf zFil_ok 9997 w]
    rfl
  have HV : Hid ((rowArr 35 fun j => pkV p sa sc da dc (13 + j)) = FA) := by show _ = _; rw [pk_file, hFA]
  have HRR : Hid (blankP p ↔ (p.slice = 0 ∧ p.files = 0 ∧ p.slices = 0 ∧ p.index = 0 ∧ p.file = zFil ∧ p.sums.length = 0 ∧ p.id = 0 ∧ p.data.length = 0)) := by
    show _ ↔ _
    unfold blankP
    rw [List.length_eq_zero_iff, List.length_eq_zero_iff]
  obtain ⟨RB, hRB⟩ : ∃ RB, RB = decide (blankP p) := ⟨_, rfl⟩
  rw [← hRB]
  have HRB := Lib.hid hRB
  clear harr hFA hRB hf
  go_enter Tryz.func95, Tryz.ntmps95
  go_upto_region 1 with fail
  obtain ⟨w1, hw1⟩ : ∃ w1, w1 = w.alloc (.cells arr 75) := ⟨_, rfl⟩
  obtain ⟨B, hB⟩ : ∃ B, B = w.heap.size := ⟨_, rfl⟩
  rw [← hw1, ← hB] at HP
  rw [← hw1] at HB
  rw [← hw1, ← hB]
  have c9 : w1.cell? ⟨B, 9, none⟩ = some (.int .i64 p.slice) := HP.out.at (by omega)
  have c10 : w1.cell? ⟨B, 10, none⟩ = some (.int .i64 p.files) := HP.out.at (by omega)
  have c11 : w1.cell? ⟨B, 11, none⟩ = some (.int .i64 p.slices) := HP.out.at (by omega)
  have c12 : w1.cell? ⟨B, 12, none⟩ = some (.int .i64 p.index) := HP.out.at (by omega)
  have c48 : w1.cell? ⟨B, 48, none⟩ = some (.slice sa p.sums.length sc) := HP.out.at (by omega)
  have c49 : w1.cell? ⟨B, 49, none⟩ = some (.int .u32 (p.id : Int)) := HP.out.at (by omega)
  have c50 : w1.cell? ⟨B, 50, none⟩ = some (.slice da p.data.length dc) := HP.out.at (by omega)
  have HG : Hid (∀ j, j < 35 → w1.cell? ⟨B, 13 + j, none⟩ = some (pkV p sa sc da dc (13 + j))) := fun j hj => HP.out.at (by omega)
  clear hw1 hB HP
  by_cases q0 : p.slice = 0
  · have d0 : ((p.slice : Int) == 0) = true := beq_iff_eq.2 q0
    by_cases q1 : p.files = 0
    · have d1 : ((p.files : Int) == 0) = true := beq_iff_eq.2 q1
      by_cases q2 : p.slices = 0
      · have d2 : ((p.slices : Int) == 0) = true := beq_iff_eq.2 q2
        by_cases q3 : p.index = 0
        · have d3 : ((p.index : Int) == 0) = true := beq_iff_eq.2 q3
          by_cases q4 : p.file = zFil
          · have d4 : ∀ w, (binOp .eql 58 (.agg FA) (.agg #[.string { data := #[] }, .int .i64 0, .int .u8 0, .int .u8 0, .int .u8 0, .int .u8 0, .int .u8 0, .int .u8 0, .int .u8 0, .int .u8 0, .int .u8 0, .int .u8 0, .int .u8 0, .int .u8 0, .int .u8 0, .int .u8 0, .int .u8 0, .int .u8 0, .int .u8 0, .int .u8 0, .int .u8 0, .int .u8 0, .int .u8 0, .int .u8 0, .int .u8 0, .int .u8 0, .int .u8 0, .int .u8 0, .int .u8 0, .int .u8 0, .int .u8 0, .int .u8 0, .int .u8 0, .int .u8 0, .int .i64 0])).run Tryz.prog w = .ok (.bool true) w := fun w => by rw [hnf, decide_eq_true q4]
            by_cases q5 : p.sums.length = 0
            · have d5 : ((p.sums.length : Int) == 0) = true := beq_iff_eq.2 (by omega)
              by_cases q6 : p.id = 0
              · have d6 : ((p.id : Int) == 0) = true := beq_iff_eq.2 (by omega)
                by_cases q7 : p.data.length = 0
                · have d7 : ((p.data.length : Int) == 0) = true := beq_iff_eq.2 (by omega)
                  have HR : Hid (RB = true) := by show _ = _; rw [HRB.out]; exact decide_eq_true (HRR.out.2 ⟨q0, q1, q2, q3, q4, q5, q6, q7⟩)
                  clear HRR HRB hnf q0 q1 q2 q3 q4 q5 q6 q7
                  go_wp2_with (refine wpList_load_v (by rfl) 58 _ rfl B 13 35 _ FA HV.out rfl _ HG.out Tryz.underlying58 rfl (by kernel_rfl) ?_)
                  go_ret
                  exact ⟨ret_bool HR.out.symm, HB.out⟩
                · have n7 := q7
                  clear q7
                  have d7 : ((p.data.length : Int) == 0) = false := beq_eq_false_iff_ne.2 (by omega)
                  have HR : Hid (RB = false) := by show _ = _; rw [HRB.out]; exact decide_eq_false fun h => n7 (HRR.out.1 h).2.2.2.2.2.2.2
                  clear HRR HRB hnf q0 q1 q2 q3 q4 q5 q6 n7
                  go_wp2_with (refine wpList_load_v (by rfl) 58 _ rfl B 13 35 _ FA HV.out rfl _ HG.out Tryz.underlying58 rfl (by kernel_rfl) ?_)
                  go_ret
                  exact ⟨ret_bool HR.out.symm, HB.out⟩
              · have n6 := q6
                clear q6
                have d6 : ((p.id : Int) == 0) = false := beq_eq_false_iff_ne.2 (by omega)
                have HR : Hid (RB = false) := by show _ = _; rw [HRB.out]; exact decide_eq_false fun h => n6 (HRR.out.1 h).2.2.2.2.2.2.1
                clear HRR HRB hnf q0 q1 q2 q3 q4 q5 n6
                go_wp2_with (refine wpList_load_v (by rfl) 58 _ rfl B 13 35 _ FA HV.out rfl _ HG.out Tryz.underlying58 rfl (by kernel_rfl) ?_)
                go_ret
                exact ⟨ret_bool HR.out.symm, HB.out⟩
            · have n5 := q5
              clear q5
              have d5 : ((p.sums.length : Int) == 0) = false := beq_eq_false_iff_ne.2 (by omega)
              have HR : Hid (RB = false) := by show _ = _; rw [HRB.out]; exact decide_eq_false fun h => n5 (HRR.out.1 h).2.2.2.2.2.1
              clear HRR HRB hnf q0 q1 q2 q3 q4 n5
              go_wp2_with (refine wpList_load_v (by rfl) 58 _ rfl B 13 35 _ FA HV.out rfl _ HG.out Tryz.underlying58 rfl (by kernel_rfl) ?_)
              go_ret
              exact ⟨ret_bool HR.out.symm, HB.out⟩
          · have n4 := q4
            clear q4
            have d4 : ∀ w, (binOp .eql 58 (.agg FA) (.agg #[.string { data := #[] }, .int .i64 0, .int .u8 0, .int .u8 0, .int .u8 0, .int .u8 0, .int .u8 0, .int .u8 0, .int .u8 0, .int .u8 0, .int .u8 0, .int .u8 0, .int .u8 0, .int .u8 0, .int .u8 0, .int .u8 0, .int .u8 0, .int .u8 0, .int .u8 0, .int .u8 0, .int .u8 0, .int .u8 0, .int .u8 0, .int .u8 0, .int .u8 0, .int .u8 0, .int .u8 0, .int .u8 0, .int .u8 0, .int .u8 0, .int .u8 0, .int .u8 0, .int .u8 0, .int .u8 0, .int .i64 0])).run Tryz.prog w = .ok (.bool false) w := fun w => by rw [hnf, decide_eq_false n4]
            have HR : Hid (RB = false) := by show _ = _; rw [HRB.out]; exact decide_eq_false fun h => n4 (HRR.out.1 h).2.2.2.2.1
            clear HRR HRB hnf q0 q1 q2 q3 n4
            go_wp2_with (refine wpList_load_v (by rfl) 58 _ rfl B 13 35 _ FA HV.out rfl _ HG.out Tryz.underlying58 rfl (by kernel_rfl) ?_)
            go_ret
            exact ⟨ret_bool HR.out.symm, HB.out⟩
        · have n3 := q3
          clear q3
          have d3 : ((p.index : Int) == 0) = false := beq_eq_false_iff_ne.2 n3
          have HR : Hid (RB = false) := by show _ = _; rw [HRB.out]; exact decide_eq_false fun h => n3 (HRR.out.1 h).2.2.2.1
          clear HRR HRB hnf q0 q1 q2 n3
          go_wp2_with (refine wpList_load_v (by rfl) 58 _ rfl B 13 35 _ FA HV.out rfl _ HG.out Tryz.underlying58 rfl (by kernel_rfl) ?_)
          go_ret
          exact ⟨ret_bool HR.out.symm, HB.out⟩
      · have n2 := q2
        clear q2
        have d2 : ((p.slices : Int) == 0) = false := beq_eq_false_iff_ne.2 n2
        have HR : Hid (RB = false) := by show _ = _; rw [HRB.out]; exact decide_eq_false fun h => n2 (HRR.out.1 h).2.2.1
        clear HRR HRB hnf q0 q1 n2
        go_wp2_with (refine wpList_load_v (by rfl) 58 _ rfl B 13 35 _ FA HV.out rfl _ HG.out Tryz.underlying58 rfl (by kernel_rfl) ?_)
        go_ret
        exact ⟨ret_bool HR.out.symm, HB.out⟩
    · have n1 := q1
      clear q1
      have d1 : ((p.files : Int) == 0) = false := beq_eq_false_iff_ne.2 n1
      have HR : Hid (RB = false) := by show _ = _; rw [HRB.out]; exact decide_eq_false fun h => n1 (HRR.out.1 h).2.1
      clear HRR HRB hnf q0 n1
      go_wp2_with (refine wpList_load_v (by rfl) 58 _ rfl B 13 35 _ FA HV.out rfl _ HG.out Tryz.underlying58 rfl (by kernel_rfl) ?_)
      go_ret
      exact ⟨ret_bool HR.out.symm, HB.out⟩
  · have n0 := q0
    clear q0
    have d0 : ((p.slice : Int) == 0) = false := beq_eq_false_iff_ne.2 n0
    have HR : Hid (RB = false) := by show _ = _; rw [HRB.out]; exact decide_eq_false fun h => n0 (HRR.out.1 h).1
    clear HRR HRB hnf  n0
    go_wp2_with (refine wpList_load_v (by rfl) 58 _ rfl B 13 35 _ FA HV.out rfl _ HG.out Tryz.underlying58 rfl (by kernel_rfl) ?_)
    go_ret
    exact ⟨ret_bool HR.out.symm, HB.out⟩
end Go.Proofs.YtcopjbapglndgaaGreatDoor
end

section
namespace Go.Proofs.YtcopjbapglndgaaGreatDoor
open Go.ChangeShapes Go.WideShapes Go.ChangeAt Go.RowKit Go.Joins
set_option linter.unusedVariables false

theorem run_storeVar_part {P : Program} (w : World) (g o : Nat) (t ty : TypeId) (old cells : Array Value) (hg : w.heap[g]? = some (.cells old t (0, 0))) (hi : (P.info? ty).map (·.size) = some cells.size)
    (ho : o + cells.size ≤ old.size) (h1 : cells.all (·.oneCell') = true) :
    (storeVar ty ⟨g, o, none⟩ (.agg cells)).run P w = .ok () (w.setRow g (old.toList.take o ++ cells.toList ++ old.toList.drop (o + cells.size)).toArray) := by
  have := run_storeCells_at P g o t cells.toList 0 old w hg (by simpa using ho) (fun v hv => (Array.all_eq_true_iff_forall_mem.1 h1) v (by simpa using hv))
  cases hq : P.info? ty with
  | none => simp [hq] at hi
  | some i =>
    have hs : cells.size = i.size := by simp [hq] at hi; omega
    simp only [Nat.add_zero, Array.length_toList] at this
    rw [hs] at this
    simp [storeVar, sizeOf, typeInfo, hq, Value.cells, hs, this]
/-- A struct or an array stored into a part of a block. -/
theorem wpList_store_part {ops : Array Oper} {rest : List Oper} {o : Oper} {a : Act} {w : World} {Q : Exit → Act → World → Prop} (hgd : o.guard = none) (ty : TypeId) (x y : Operand) (ho : o.op = .store ty x y)
    (g off n N : Nat) (F F' : Nat → Value) (t : TypeId) (cells : Array Value) (hx : a.eval x = .pointer (some ⟨g, off, none⟩)) (hy : a.eval y = .agg cells) (hg : Row w g t N N F)
    (hi : (Tryz.prog.info? ty).map (·.size) = some cells.size) (hn : cells.size = n) (ho2 : off + n ≤ N) (h1 : cells.all (·.oneCell') = true)
    (hf : ∀ j, j < N → (off ≤ j ∧ j < off + n ∧ cells[j - off]? = some (F' j)) ∨ ((j < off ∨ off + n ≤ j) ∧ F' j = F j))
    (h : ∀ w', Hid (Row w' g t N N F') → Hid (Fr (fun k => k = g) w w') → wpList Tryz.prog ops Q rest (a.put o.dst undef) w') : wpList Tryz.prog ops Q (o :: rest) a w := by
  subst hn
  refine wpList_plain hgd fun K hK => ?_
  have hw := hg.whole
  have hr := run_storeVar_part (P := Tryz.prog) w g off t ty _ cells hw hi (by rw [rowArr_size]; exact ho2) h1
  unfold Oper.wp execOp
  simp only [ho, hx, hy, Instr.storeAt, Instr.sureAddr, Sem.run_bind, Sem.run_pure, Result.andThen_ok, hr]
  refine hK _ _ (h _ ⟨_, setRow_heap _ _ _ _ _ _ hw, ?_, fun j hj => ?_⟩ (Fr.setRow (X := fun k => k = g) (Fr.refl _ w) (fun _ => rfl) _))
  · have : (rowArr N F).toList.length = N := by rw [Array.length_toList, rowArr_size]
    simp only [List.size_toArray, List.length_append, List.length_take, List.length_drop, this, Array.length_toList]
    omega
  · have hcl : (rowArr N F).toList.length = N := by rw [Array.length_toList, rowArr_size]
    have htl : ((rowArr N F).toList.take off).length = off := by rw [List.length_take, hcl]; omega
    rw [List.getElem?_toArray]
    rcases hf j hj with ⟨h4, h5, h6⟩ | ⟨h4, h6⟩
    · rw [List.getElem?_append_left (by rw [List.length_append, htl, Array.length_toList]; omega), List.getElem?_append_right (by rw [htl]; exact h4), htl, ← h6]
      simp
    · have hF : (rowArr N F).toList[j]? = some (F j) := by rw [rowArr_get, if_pos hj]
      rw [h6]
      rcases h4 with h4 | h4
      · rw [List.getElem?_append_left (by rw [List.length_append, htl]; omega), List.getElem?_append_left (by rw [htl]; exact h4), List.getElem?_take, if_pos h4, hF]
      · rw [List.getElem?_append_right (by rw [List.length_append, htl, Array.length_toList]; exact h4), List.length_append, htl, Array.length_toList, List.getElem?_drop, show off + cells.size + (j - (off + cells.size)) = j by omega, hF]
theorem Row.put {w : World} {P : Nat} {p : Pk} {sa : Option Addr} {sc : Nat} {da : Option Addr} {dc : Nat} (h : Row w P 75 51 51 (pkV p sa sc da dc)) {i : Nat} (hi : i < 51) {v : Value} (p' : Pk) (sa' : Option Addr) (sc' : Nat) (da' : Option Addr) (dc' : Nat) (hv : ∀ j, j < 51 → pkV p' sa' sc' da' dc' j = if j = i then v else pkV p sa sc da dc j) : Row (w.setCell ⟨P, i, none⟩ v) P 75 51 51 (pkV p' sa' sc' da' dc') :=
  (h.upd i hi v).mono (Nat.le_refl _) fun j hj => (hv j hj).symm
theorem below_cellB {n : Nat} {w w1 : World} (h : Below n w w1) (hn : n ≤ w1.heap.size) {B : Nat} (hB : n ≤ B) (i : Nat) (v : Value) : Below n w (w1.setCell ⟨B, i, none⟩ v) :=
  h.trans ((Fr.set (X := fun j => j = B) (p := ⟨B, i, none⟩) (Fr.refl _ w1) (fun _ => rfl) v).below hn fun k hk e => by omega)
theorem pkV_zfile (p : Pk) (sa : Option Addr) (sc : Nat) (da : Option Addr) (dc : Nat) : ∀ j, j < 51 → (13 ≤ j ∧ j < 13 + 35 ∧ (rowArr 35 (filV zFil))[j - 13]? = some (pkV { p with file := zFil } sa sc da dc j)) ∨ ((j < 13 ∨ 13 + 35 ≤ j) ∧ pkV { p with file := zFil } sa sc da dc j = pkV p sa sc da dc j) := fun j hj => by
  by_cases h : 13 ≤ j ∧ j < 48
  · refine .inl ⟨h.1, by omega, ?_⟩
    rw [pkV_fil _ _ _ _ _ h.1 h.2]
    simp [rowArr, show j - 13 < 35 by omega]
  · refine .inr ⟨by omega, ?_⟩
    unfold pkV
    (repeat' split) <;> first | rfl | (exfalso; omega)

theorem oneCell_fil (f : Fil) : (rowArr 35 (filV f)).all (·.oneCell') = true := by
  simp only [rowArr, List.all_toArray, List.all_map, List.all_eq_true]
  intro j _
  simp only [Function.comp]
  unfold filV
  (repeat' split) <;> rfl
set_option maxRecDepth 1000000 in
set_option maxHeartbeats 4000000 in
theorem plain_any (p : Pk) (sa : Option Addr) (sc : Nat) (da : Option Addr) (dc : Nat) (w : World) (hf : FilOk p.file) (hsl : p.sums.length ≤ 1000000) (hdl : p.data.length ≤ 1000000) :
    Calls Tryz.prog 76 #[.agg (rowArr 51 (pkV p sa sc da dc))] w fun e w' => e = .returned (.bool (decide (plainP p))) ∧ Below w.heap.size w w' := by
  have mixed : Tryz.prog.follows .mixedOrders = true := by kernel_rfl
  have hHB : Below w.heap.size w (w.alloc (.cells (rowArr 51 (pkV p sa sc da dc)) 75)) := (Below.refl _ _).alloc (Nat.le_refl _) _
  have hHP : Row (w.alloc (.cells (rowArr 51 (pkV p sa sc da dc)) 75)) w.heap.size 75 51 51 (pkV p sa sc da dc) := Row.of_whole (heap_alloc_last w _)
  have HB := Lib.hid hHB
  have HP := Lib.hid hHP
  obtain ⟨arr, harr⟩ : ∃ arr, arr = rowArr 51 (pkV p sa sc da dc) := ⟨_, rfl⟩
  rw [← harr] at HB HP ⊢
  have HFO := Lib.hid hf
  obtain ⟨RB, hRB⟩ : ∃ RB, RB = decide (plainP p) := ⟨_, rfl⟩
  rw [← hRB]
  have HRB := Lib.hid hRB
  clear harr hRB hf hHB hHP
  go_enter Tryz.func76, Tryz.ntmps76
  go_upto_region 1 with fail
  obtain ⟨B, hB⟩ : ∃ B, B = w.heap.size := ⟨_, rfl⟩
  have hwB : w.heap.size ≤ B := by omega
  rw [← hB] at HP ⊢
  generalize w.alloc (.cells arr 75) = w1 at *
  clear hB
  obtain ⟨set, kd, sl, fs, ss, ix, fl, sm, id, dt⟩ := p
  simp only at hsl hdl HFO
  have c8 : w1.cell? ⟨B, 8, none⟩ = some (.int .i64 kd) := HP.out.cell 8 (by omega)
  by_cases k1 : kd = 1
  · subst k1
    have c9 := HP.out.cell 9 (by omega)
    have f9 := HP.out.loose 9
    have c10 := HP.out.cell 10 (by omega)
    have f10 := HP.out.loose 10
    have c11 := HP.out.cell 11 (by omega)
    have f11 := HP.out.loose 11
    go_upto_region 13 with fail
    have HQ : Hid (Row (((w1.setCell ⟨B, 9, none⟩ (.int .i64 0)).setCell ⟨B, 10, none⟩ (.int .i64 0)).setCell ⟨B, 11, none⟩ (.int .i64 0)) B 75 51 51 (pkV ⟨set, 1, 0, 0, 0, ix, fl, sm, id, dt⟩ sa sc da dc)) :=
      ((HP.out.put (by omega) ⟨set, 1, 0, fs, ss, ix, fl, sm, id, dt⟩ sa sc da dc (pkV_slice ⟨set, 1, sl, fs, ss, ix, fl, sm, id, dt⟩ sa sc da dc 0)).put (by omega) ⟨set, 1, 0, 0, ss, ix, fl, sm, id, dt⟩ sa sc da dc (pkV_files ⟨set, 1, 0, fs, ss, ix, fl, sm, id, dt⟩ sa sc da dc 0)).put (by omega) ⟨set, 1, 0, 0, 0, ix, fl, sm, id, dt⟩ sa sc da dc (pkV_slices ⟨set, 1, 0, 0, ss, ix, fl, sm, id, dt⟩ sa sc da dc 0)
    have HBq : Hid (Below w.heap.size w (((w1.setCell ⟨B, 9, none⟩ (.int .i64 0)).setCell ⟨B, 10, none⟩ (.int .i64 0)).setCell ⟨B, 11, none⟩ (.int .i64 0))) := (below_cellB (below_cellB (below_cellB HB.out (by simpa using HB.out.size) hwB _ _) (by simpa using HB.out.size) hwB _ _) (by simpa using HB.out.size) hwB _ _)
    generalize ((w1.setCell ⟨B, 9, none⟩ (.int .i64 0)).setCell ⟨B, 10, none⟩ (.int .i64 0)).setCell ⟨B, 11, none⟩ (.int .i64 0) = w2 at *
    clear c8 c9 c10 c11 f9 f10 f11 HP HB
    have HRE : Hid (RB = decide (blankP ⟨set, 1, 0, 0, 0, ix, fl, sm, id, dt⟩)) := by
      show _ = _
      rw [HRB.out]
      refine decide_eq_decide.2 ?_
      unfold plainP
      simp only
      simp
    have HBL := Lib.hid (blank_any ⟨set, 1, 0, 0, 0, ix, fl, sm, id, dt⟩ sa sc da dc w2 HFO.out (by simp only; omega) (by simp only; omega))
    rw [← HRE.out] at HBL
    clear HRE HRB
    have HWH := Lib.hid HQ.out.whole
    obtain ⟨AQ, hAQ⟩ : ∃ AQ, AQ = rowArr 51 (pkV ⟨set, 1, 0, 0, 0, ix, fl, sm, id, dt⟩ sa sc da dc) := ⟨_, rfl⟩
    have hAQs : AQ.size = 51 := by rw [hAQ, rowArr_size]
    rw [← hAQ] at HBL HWH
    have HAS := Lib.hid hAQs
    clear hAQ hAQs HQ
    go_wp2_with (refine wpList_load_row rfl 75 _ rfl B rfl 75 AQ (0, 0) _ HWH.out Tryz.underlying75 rfl (by rw [HAS.out]; kernel_rfl) ?_)
    (with_reducible refine HBL.out.mono ?_)
    rintro e wz ⟨rfl, bz⟩
    have HBz : Hid (Below w.heap.size w wz) := HBq.out.trans (bz.mono HBq.out.size)
    clear bz HBL HBq
    go_wp2_with fail
    go_ret
    exact ⟨rfl, HBz.out⟩
  by_cases k2 : kd = 2
  · subst k2
    have c12 := HP.out.cell 12 (by omega)
    have f12 := HP.out.loose 12
    go_upto_region 6 with fail
    have HQ1 : Hid (Row (w1.setCell ⟨B, 12, none⟩ (.int .i64 0)) B 75 51 51 (pkV ⟨set, 2, sl, fs, ss, 0, fl, sm, id, dt⟩ sa sc da dc)) := HP.out.put (by omega) ⟨set, 2, sl, fs, ss, 0, fl, sm, id, dt⟩ sa sc da dc (pkV_index ⟨set, 2, sl, fs, ss, ix, fl, sm, id, dt⟩ sa sc da dc 0)
    have HBq1 : Hid (Below w.heap.size w (w1.setCell ⟨B, 12, none⟩ (.int .i64 0))) := (below_cellB HB.out (by simpa using HB.out.size) hwB _ _)
    go_upto_region 13 with (refine wpList_store_part rfl 58 _ _ rfl B 13 35 51 _ (pkV ⟨set, 2, sl, fs, ss, 0, zFil, sm, id, dt⟩ sa sc da dc) 75 _ rfl rfl HQ1.out (by kernel_rfl) rfl (by omega) (oneCell_fil zFil) (pkV_zfile ⟨set, 2, sl, fs, ss, 0, fl, sm, id, dt⟩ sa sc da dc) ?_; intro w2 HQ hf2; have HBq : Hid (Below w.heap.size w w2) := HBq1.out.trans (hf2.out.below HBq1.out.size fun k hk e => by omega); clear hf2)
    clear c8 c12 f12 HP HB HQ1 HBq1
    have HRE : Hid (RB = decide (blankP ⟨set, 2, sl, fs, ss, 0, zFil, sm, id, dt⟩)) := by
      show _ = _
      rw [HRB.out]
      refine decide_eq_decide.2 ?_
      unfold plainP
      simp only
      simp
    have HBL := Lib.hid (blank_any ⟨set, 2, sl, fs, ss, 0, zFil, sm, id, dt⟩ sa sc da dc w2 zFil_ok (by simp only; omega) (by simp only; omega))
    rw [← HRE.out] at HBL
    clear HRE HRB
    have HWH := Lib.hid HQ.out.whole
    obtain ⟨AQ, hAQ⟩ : ∃ AQ, AQ = rowArr 51 (pkV ⟨set, 2, sl, fs, ss, 0, zFil, sm, id, dt⟩ sa sc da dc) := ⟨_, rfl⟩
    have hAQs : AQ.size = 51 := by rw [hAQ, rowArr_size]
    rw [← hAQ] at HBL HWH
    have HAS := Lib.hid hAQs
    clear hAQ hAQs HQ
    go_wp2_with (refine wpList_load_row rfl 75 _ rfl B rfl 75 AQ (0, 0) _ HWH.out Tryz.underlying75 rfl (by rw [HAS.out]; kernel_rfl) ?_)
    (with_reducible refine HBL.out.mono ?_)
    rintro e wz ⟨rfl, bz⟩
    have HBz : Hid (Below w.heap.size w wz) := HBq.out.trans (bz.mono HBq.out.size)
    clear bz HBL HBq
    go_wp2_with fail
    go_ret
    exact ⟨rfl, HBz.out⟩
  by_cases k3 : kd = 3
  · subst k3
    have c12 := HP.out.cell 12 (by omega)
    have f12 := HP.out.loose 12
    have c48 := HP.out.cell 48 (by omega)
    have f48 := HP.out.loose 48
    go_upto_region 13 with fail
    have HQ : Hid (Row ((w1.setCell ⟨B, 12, none⟩ (.int .i64 0)).setCell ⟨B, 48, none⟩ (.slice none 0 0)) B 75 51 51 (pkV ⟨set, 3, sl, fs, ss, 0, fl, [], id, dt⟩ none 0 da dc)) :=
      (HP.out.put (by omega) ⟨set, 3, sl, fs, ss, 0, fl, sm, id, dt⟩ sa sc da dc (pkV_index ⟨set, 3, sl, fs, ss, ix, fl, sm, id, dt⟩ sa sc da dc 0)).put (by omega) ⟨set, 3, sl, fs, ss, 0, fl, [], id, dt⟩ none 0 da dc (pkV_sums ⟨set, 3, sl, fs, ss, 0, fl, sm, id, dt⟩ sa sc da dc [] none 0)
    have HBq : Hid (Below w.heap.size w ((w1.setCell ⟨B, 12, none⟩ (.int .i64 0)).setCell ⟨B, 48, none⟩ (.slice none 0 0))) := (below_cellB (below_cellB HB.out (by simpa using HB.out.size) hwB _ _) (by simpa using HB.out.size) hwB _ _)
    generalize (w1.setCell ⟨B, 12, none⟩ (.int .i64 0)).setCell ⟨B, 48, none⟩ (.slice none 0 0) = w2 at *
    clear c8 c12 c48 f12 f48 HP HB
    have HRE : Hid (RB = decide (blankP ⟨set, 3, sl, fs, ss, 0, fl, [], id, dt⟩)) := by
      show _ = _
      rw [HRB.out]
      refine decide_eq_decide.2 ?_
      unfold plainP
      simp only
      simp
    have HBL := Lib.hid (blank_any ⟨set, 3, sl, fs, ss, 0, fl, [], id, dt⟩ none 0 da dc w2 HFO.out (by simp) (by simp only; omega))
    rw [← HRE.out] at HBL
    clear HRE HRB
    have HWH := Lib.hid HQ.out.whole
    obtain ⟨AQ, hAQ⟩ : ∃ AQ, AQ = rowArr 51 (pkV ⟨set, 3, sl, fs, ss, 0, fl, [], id, dt⟩ none 0 da dc) := ⟨_, rfl⟩
    have hAQs : AQ.size = 51 := by rw [hAQ, rowArr_size]
    rw [← hAQ] at HBL HWH
    have HAS := Lib.hid hAQs
    clear hAQ hAQs HQ
    go_wp2_with (refine wpList_load_row rfl 75 _ rfl B rfl 75 AQ (0, 0) _ HWH.out Tryz.underlying75 rfl (by rw [HAS.out]; kernel_rfl) ?_)
    (with_reducible refine HBL.out.mono ?_)
    rintro e wz ⟨rfl, bz⟩
    have HBz : Hid (Below w.heap.size w wz) := HBq.out.trans (bz.mono HBq.out.size)
    clear bz HBL HBq
    go_wp2_with fail
    go_ret
    exact ⟨rfl, HBz.out⟩
  by_cases k4 : kd = 4
  · subst k4
    have c50 : w1.cell? ⟨B, 50, none⟩ = some (.slice da dt.length dc) := HP.out.cell 50 (by omega)
    have f50 := HP.out.loose 50
    have c49 := HP.out.cell 49 (by omega)
    have f49 := HP.out.loose 49
    have HSY := Lib.hid (symbolic_any dt.length w1 hdl)
    by_cases g : 1 ≤ dt.length ∧ dt.length ≤ 256
    · rw [decide_eq_true g] at HSY
      have HG := Lib.hid g
      clear g
      go_wp2_with fail
      (with_reducible refine HSY.out.mono ?_)
      rintro e wz ⟨rfl, rfl⟩
      go_upto_region 13 with fail
      have HQ : Hid (Row ((w1.setCell ⟨B, 49, none⟩ (.int .u32 0)).setCell ⟨B, 50, none⟩ (.slice none 0 0)) B 75 51 51 (pkV ⟨set, 4, sl, fs, ss, ix, fl, sm, 0, []⟩ sa sc none 0)) :=
        (HP.out.put (by omega) ⟨set, 4, sl, fs, ss, ix, fl, sm, 0, dt⟩ sa sc da dc (pkV_id ⟨set, 4, sl, fs, ss, ix, fl, sm, id, dt⟩ sa sc da dc 0)).put (by omega) ⟨set, 4, sl, fs, ss, ix, fl, sm, 0, []⟩ sa sc none 0 (pkV_data ⟨set, 4, sl, fs, ss, ix, fl, sm, 0, dt⟩ sa sc da dc [] none 0)
      have HBq : Hid (Below w.heap.size w ((w1.setCell ⟨B, 49, none⟩ (.int .u32 0)).setCell ⟨B, 50, none⟩ (.slice none 0 0))) := (below_cellB (below_cellB HB.out (by simpa using HB.out.size) hwB _ _) (by simpa using HB.out.size) hwB _ _)
      clear HSY
      generalize (w1.setCell ⟨B, 49, none⟩ (.int .u32 0)).setCell ⟨B, 50, none⟩ (.slice none 0 0) = w2 at *
      clear c8 c49 c50 f49 f50 HP HB
      have HRE : Hid (RB = decide (blankP ⟨set, 4, sl, fs, ss, ix, fl, sm, 0, []⟩)) := by
        show _ = _
        rw [HRB.out]
        refine decide_eq_decide.2 ?_
        unfold plainP
        simp only
        have := HG.out; simp [this]
      have HBL := Lib.hid (blank_any ⟨set, 4, sl, fs, ss, ix, fl, sm, 0, []⟩ sa sc none 0 w2 HFO.out (by simp only; omega) (by simp))
      rw [← HRE.out] at HBL
      clear HRE HRB
      have HWH := Lib.hid HQ.out.whole
      obtain ⟨AQ, hAQ⟩ : ∃ AQ, AQ = rowArr 51 (pkV ⟨set, 4, sl, fs, ss, ix, fl, sm, 0, []⟩ sa sc none 0) := ⟨_, rfl⟩
      have hAQs : AQ.size = 51 := by rw [hAQ, rowArr_size]
      rw [← hAQ] at HBL HWH
      have HAS := Lib.hid hAQs
      clear hAQ hAQs HQ
      go_wp2_with (refine wpList_load_row rfl 75 _ rfl B rfl 75 AQ (0, 0) _ HWH.out Tryz.underlying75 rfl (by rw [HAS.out]; kernel_rfl) ?_)
      (with_reducible refine HBL.out.mono ?_)
      rintro e wz ⟨rfl, bz⟩
      have HBz : Hid (Below w.heap.size w wz) := HBq.out.trans (bz.mono HBq.out.size)
      clear bz HBL HBq
      go_wp2_with fail
      go_ret
      exact ⟨rfl, HBz.out⟩
    · rw [decide_eq_false g] at HSY
      have HR : Hid (RB = false) := by
        show _ = _
        rw [HRB.out]
        refine decide_eq_false ?_
        unfold plainP
        simp only
        intro h
        rcases h with h | h | h | h
        · exact absurd h.1 (by decide)
        · exact absurd h.1 (by decide)
        · exact absurd h.1 (by decide)
        · exact g h.2.1
      clear g HRB
      go_wp2_with fail
      (with_reducible refine HSY.out.mono ?_)
      rintro e wz ⟨rfl, rfl⟩
      go_wp2_with fail
      go_ret
      exact ⟨ret_bool HR.out.symm, HB.out⟩
  have HR : Hid (RB = false) := by
    show _ = _
    rw [HRB.out]
    refine decide_eq_false ?_
    unfold plainP
    simp only
    intro h
    rcases h with h | h | h | h
    · exact k1 h.1
    · exact k2 h.1
    · exact k3 h.1
    · exact k4 h.1
  have g1 : (kd == 1) = false := beq_eq_false_iff_ne.2 k1
  have g2 : (kd == 2) = false := beq_eq_false_iff_ne.2 k2
  have g3 : (kd == 3) = false := beq_eq_false_iff_ne.2 k3
  have g4 : (kd == 4) = false := beq_eq_false_iff_ne.2 k4
  clear HRB k1 k2 k3 k4
  go_wp2_with fail
  go_ret
  exact ⟨ret_bool HR.out.symm, HB.out⟩
end Go.Proofs.YtcopjbapglndgaaGreatDoor
end

section
namespace Go.Proofs.YtcopjbapglndgaaGreatDoor
open Go.Shelf Go.Proofs
def lay_joinB_ren : Go.Shelf.Ren := ⟨fun | 14 => 88 | 15 => 103 | n => n, fun | 26 => 30 | 22 => 35 | 3 => 3 | 4 => 4 | 0 => 0 | 9 => 9 | 20 => 20 | 5 => 5 | n => n, fun | n => n⟩
theorem lay_joinB : Go.Proofs.SlLaysJ.n14 Tryz.prog lay_joinB_ren := {
  mixed := by kernel_rfl
  f14 := Tryz.func88.trans (congrArg some (by kernel_rfl))
  f15 := Tryz.func103.trans (congrArg some (by kernel_rfl))
  t0 := Tryz.underlying0
  a0 := Tryz.isAgg0
  z0 := Tryz.sizeOf0
  v0 := Tryz.zeroValue0
  t3 := Tryz.underlying3
  a3 := Tryz.isAgg3
  z3 := Tryz.sizeOf3
  v3 := Tryz.zeroValue3
  t4 := Tryz.underlying4
  a4 := Tryz.isAgg4
  z4 := Tryz.sizeOf4
  v4 := Tryz.zeroValue4
  t9 := Tryz.underlying9
  a9 := Tryz.isAgg9
  z9 := Tryz.sizeOf9
  v9 := Tryz.zeroValue9
  t20 := Tryz.underlying20
  a20 := Tryz.isAgg20
  z20 := Tryz.sizeOf20
  v20 := Tryz.zeroValue20
  t22 := Tryz.underlying35
  a22 := Tryz.isAgg35
  z22 := Tryz.sizeOf35
  v22 := Tryz.zeroValue35
  t26 := Tryz.underlying30
  a26 := Tryz.isAgg30
  z26 := Tryz.sizeOf30
  v26 := Tryz.zeroValue30
  t5 := Tryz.underlying5
  z5 := Tryz.sizeOf5
  i5 := by kernel_rfl }
end Go.Proofs.YtcopjbapglndgaaGreatDoor
end
