/-
  Package packet: bytes copied into cells of a row; slices' sums that are read.
  Names, plainly: the parts of a name between the strokes; which names may be. No program in this text.
  A set (api.Set): plainly, which are formed; in memory: its files, its slices, its three cells.
  Package packet: readSums.
  Package packet: a packet in a block that is read into.
-/
import Derived.Test.YtfgaohilpbocbaaGreatDoorMm11
import Derived.Laws.CopyRow
import Derived.Laws.IdiomCopy
import Derived.Lib.Split
import Derived.Lib.SplitLaws
import Derived.Lib.Strings
section
namespace Go.Proofs.YtfgaohilpbocbaaGreatDoor
open Go.ChangeShapes Go.WideShapes Go.ChangeAt Go.RowKit Go.Joins
set_option linter.unusedVariables false

theorem info8s : (Tryz.prog.info? 5).map (·.size) = some 1 := by kernel_rfl
/-- Bytes copied into a row. -/
theorem copy_any (w : World) (ty : TypeId) (g o N k k' n dc : Nat) (F F' : Nat → Value) (t : TypeId) (a : Option Addr) (c : Nat) (x : List Nat) (hg : Row w g t N k F) (hs : Sl w a c x) (hx : x.length ≤ n) (ho : o + n ≤ N) (hk : k' ≤ N)
    (hf : ∀ j, j < k' → (o ≤ j ∧ j < o + x.length ∧ F' j = vOf x (j - o)) ∨ ((j < o ∨ o + x.length ≤ j) ∧ j < k ∧ F' j = F j)) :
    ∃ w', (Builtin.copy_ #[53, 53] ty #[.slice (some ⟨g, o, none⟩) n dc, .slice a x.length c]).run Tryz.prog w = .ok (goInt x.length) w' ∧ Row w' g t N k' F' ∧ Fr (fun j => j = g) w w' := by
  by_cases h0 : x = []
  · subst h0
    refine ⟨w, run_copy_none w 53 53 ty 5 _ _ _ _ _ _ Tryz.underlying53 info8s (by simp), ?_, Fr.refl _ _⟩
    obtain ⟨cs, h1, h2, h3⟩ := hg
    refine ⟨cs, h1, h2, fun j hj => ?_⟩
    rcases hf j hj with ⟨h4, h5, _⟩ | ⟨_, h4, h5⟩
    · simp at h5
      omega
    · rw [h3 j h4, h5]
  · obtain ⟨b, off, rfl, hb⟩ := hs.some (k := 0) (List.length_pos_iff.2 h0)
    obtain ⟨cs, h1, h2, h3⟩ := hg
    have hr := run_copy_row (P := Tryz.prog) w 53 53 ty 5 g o n dc ⟨b, off, none⟩ x.length c cs t (x.map byteV) Tryz.underlying53 info8s h1 (by rw [List.length_map]; exact (Nat.min_eq_left hx).symm) (fun j v hj => by
      rw [List.getElem?_map] at hj
      obtain ⟨y, hy, rfl⟩ := Option.map_eq_some_iff.1 hj
      obtain ⟨hjl, rfl⟩ := List.getElem?_eq_some_iff.1 hy
      have := hb j hjl
      by_cases j0 : j = 0
      · subst j0; simpa [Addr.add, byteV] using this
      · simpa [Addr.add, j0, byteV] using this) (by rw [List.length_map, h2]; omega) (fun v hv => by obtain ⟨y, _, rfl⟩ := List.mem_map.1 hv; rfl)
    rw [List.length_map] at hr
    refine ⟨_, hr, ⟨_, setRow_heap _ _ _ _ _ _ h1, ?_, fun j hj => ?_⟩, Fr.setRow (X := fun j => j = g) (Fr.refl _ w) (fun _ => rfl) _⟩
    · have : cs.toList.length = N := by rw [Array.length_toList]; exact h2
      simp only [List.size_toArray, List.length_append, List.length_take, List.length_map, List.length_drop, this]
      omega
    · have hcl : cs.toList.length = N := by rw [Array.length_toList]; exact h2
      have htl : (cs.toList.take o).length = o := by rw [List.length_take, hcl]; omega
      rw [List.getElem?_toArray]
      rcases hf j hj with ⟨h4, h5, h6⟩ | ⟨h4, h5, h6⟩
      · rw [List.getElem?_append_left (by rw [List.length_append, htl, List.length_map]; omega), List.getElem?_append_right (by rw [htl]; exact h4), htl, List.getElem?_map, List.getElem?_eq_getElem (by omega), h6, vOf_eq x (j - o) (by omega)]
        rfl
      · rw [h6, ← h3 j h5]
        rcases h4 with h4 | h4
        · rw [List.getElem?_append_left (by rw [List.length_append, htl]; omega), List.getElem?_append_left (by rw [htl]; exact h4), List.getElem?_take, if_pos h4]
          simp
        · rw [List.getElem?_append_right (by rw [List.length_append, htl, List.length_map]; exact h4), List.length_append, htl, List.length_map, List.getElem?_drop, show o + x.length + (j - (o + x.length)) = j by omega]
          simp
/-- The same as a step where the order is open. -/
theorem wp_copyB {o : Oper} {a : Act} {K : Act → World → Prop} {Q : Exit → Act → World → Prop} (w : World) (d s : Operand)
    (hop : o.op = .call { callee := .builtin .copy, args := #[d, s], argTypes := #[53, 53] })
    (g off N k k' n dc : Nat) (F F' : Nat → Value) (t : TypeId) (hd : a.eval d = .slice (some ⟨g, off, none⟩) n dc) (sa : Option Addr) (sc q : Nat) (x : List Nat) (hsv : a.eval s = .slice sa q sc) (hq : x.length = q)
    (hg : Row w g t N k F) (hs : Sl w sa sc x) (hx : x.length ≤ n) (ho : off + n ≤ N) (hk : k' ≤ N)
    (hf : ∀ j, j < k' → (off ≤ j ∧ j < off + x.length ∧ F' j = vOf x (j - off)) ∨ ((j < off ∨ off + x.length ≤ j) ∧ j < k ∧ F' j = F j))
    (h : ∀ w', Hid (Row w' g t N k' F') → Hid (Fr (fun j => j = g) w w') → K (a.put o.dst (goInt q)) w') : o.wp Tryz.prog a w K Q := by
  subst hq
  obtain ⟨w', hr, h2, h3⟩ := copy_any w o.type g off N k k' n dc F F' t sa sc x hg hs hx ho hk hf
  unfold Oper.wp execOp
  simp only [hop, resolve, invoke, builtin, Sem.run_bind, Sem.run_pure, Result.andThen_ok, List.map_toArray, List.map_cons, List.map_nil, hd, hsv, hr]
  exact h w' h2 h3

/-! Slices, made. -/

theorem infoSm : (Tryz.prog.info? 52).map (fun i => (i.zero.isSome, i.size, i.bytes)) = some (true, 34, 48) := by kernel_rfl
theorem make_sms (n : Nat) (hn : n ≤ 1000000) (w : World) : ∃ cs : Array Value, cs.size = 34 * n ∧ (Instr.makeSlice 28 (.int .i64 (n : Int)) (.int .i64 (n : Int))).run Tryz.prog w = .ok (.slice (some ⟨w.heap.size, 0, none⟩) n n) (w.alloc (.cells cs 52)) := by
  obtain ⟨i, hi, hzz⟩ := Option.map_eq_some_iff.1 infoSm
  simp only [Prod.mk.injEq] at hzz
  obtain ⟨hz, hs, hb⟩ := hzz
  obtain ⟨z, hz⟩ := Option.isSome_iff_exists.1 hz
  have hr := run_make (P := Tryz.prog) w 28 52 i z Tryz.underlying28 hi hz .i64 .i64 (n : Int) (n : Int) (by omega) (Int.le_refl _) (by rw [hb]; omega) (by omega)
  refine ⟨_, ?_, by simpa using hr⟩
  rw [hs]
  simp [size_madeCells]
  omega

/-- What the cells of slices hold. -/
def smF (m : List Nat) (j : Nat) : Value := smV (rdSm (m.drop (38 * (j / 34)))) (j % 34)
theorem smF_0 (m : List Nat) (k : Nat) : smF m (34 * k) = .int .i64 ((rdSm (m.drop (38 * k))).n) := by
  unfold smF
  rw [show 34 * k / 34 = k by omega, show 34 * k % 34 = 0 by omega]
  rfl
theorem smF_1 (m : List Nat) (k : Nat) : smF m (34 * k + 1) = .int .u32 (((rdSm (m.drop (38 * k))).crc : Nat) : Int) := by
  unfold smF
  rw [show (34 * k + 1) / 34 = k by omega, show (34 * k + 1) % 34 = 1 by omega]
  rfl
theorem smF_2 (m : List Nat) (k j : Nat) (h : j < 32) : smF m (34 * k + 2 + j) = vOf (rdSm (m.drop (38 * k))).dg j := by
  unfold smF
  rw [show (34 * k + 2 + j) / 34 = k by omega, show (34 * k + 2 + j) % 34 = 2 + j by omega]
  unfold smV
  rw [if_neg (by omega), if_neg (by omega), show 2 + j - 2 = j by omega]
/-- Cells that hold sums are sums. -/
theorem sms_of_row {w : World} {S c : Nat} {m : List Nat} (h : Row w S 52 (34 * c) (34 * c) (smF m)) (hm : 38 * c ≤ m.length) (hb : ∀ y ∈ m, y < 256) (hc : c ≤ 1000000) : Sms w (some ⟨S, 0, none⟩) c (rdSums c m) := by
  refine ⟨fun x hx => (((rdSums_flat c m hm hb).2 x hx).1), by rw [rdSums_len]; exact Nat.le_refl _, by unfold maxLen; omega, .inr ⟨S, 0, rfl, h.lt, fun i hi => ?_⟩⟩
  rw [rdSums_len] at hi
  rw [rdSums_get m hi, Nat.zero_add, Nat.mul_comm]
  refine ⟨?_, ?_, fun j hj => ?_⟩
  · rw [h.cell (34 * i) (by omega), smF_0]
  · rw [h.cell (34 * i + 1) (by omega), smF_1]
  · have hj32 : j < 32 := by
      have : ((rdSm (m.drop (38 * i))).dg).length ≤ 32 := by unfold rdSm; simp only [List.length_take]; omega
      omega
    rw [h.cell (34 * i + 2 + j) (by omega), smF_2 m i j hj32, vOf_eq _ _ hj]
end Go.Proofs.YtfgaohilpbocbaaGreatDoor
end

section
namespace Go.Proofs.YtfgaohilpbocbaaGreatDoor
set_option linter.unusedVariables false

/-- The parts of a name between the strokes. -/
def partsN : List UInt8 → List (List UInt8)
  | [] => [[]]
  | c :: r => if c = 47 then [] :: partsN r else match partsN r with
    | [] => [[c]]
    | p :: ps => (c :: p) :: ps
theorem partsN_ne (l : List UInt8) : partsN l ≠ [] := by
  cases l with
  | nil => simp [partsN]
  | cons c r => unfold partsN; split; · simp
                · cases partsN r <;> simp
theorem partsN_none : ∀ {a : List UInt8}, (∀ c ∈ a, c ≠ 47) → partsN a = [a]
  | [], _ => rfl
  | c :: r, h => by
    have h1 : c ≠ 47 := h c (by simp)
    have h2 := partsN_none (a := r) fun x hx => h x (by simp [hx])
    unfold partsN
    rw [if_neg h1, h2]
theorem partsN_cut : ∀ {a : List UInt8} (r : List UInt8), (∀ c ∈ a, c ≠ 47) → partsN (a ++ 47 :: r) = a :: partsN r
  | [], r, _ => by show partsN (47 :: r) = _; rw [partsN, if_pos rfl]
  | c :: t, r, h => by
    have h1 : c ≠ 47 := h c (by simp)
    have h2 := partsN_cut (a := t) r fun x hx => h x (by simp [hx])
    show partsN (c :: (t ++ 47 :: r)) = _
    rw [partsN, if_neg h1, h2]
theorem partsN_len : ∀ (l : List UInt8), (partsN l).length ≤ l.length + 1
  | [] => by simp [partsN]
  | c :: r => by
    have := partsN_len r
    unfold partsN
    split
    · simpa using this
    · cases h : partsN r with
      | nil => simp
      | cons p ps => rw [h] at this; simp at this ⊢; omega
theorem index47 : ∀ (s : List UInt8), (Lib.index s [47] = -1 ∧ ∀ c ∈ s, c ≠ 47) ∨ ∃ i : Nat, Lib.index s [47] = i ∧ i < s.length ∧ (∀ c ∈ s.take i, c ≠ 47) ∧ s = s.take i ++ 47 :: s.drop (i + 1)
  | [] => .inl ⟨by decide, by simp⟩
  | c :: r => by
    by_cases h : c = 47
    · subst h
      exact .inr ⟨0, by unfold Lib.index; rw [if_pos (by simp [List.isPrefixOf])]; rfl, by simp, by simp, by simp⟩
    · have hp : ¬ List.isPrefixOf [47] (c :: r) = true := by
        intro e
        simp [List.isPrefixOf] at e
        exact h e.symm
      rcases index47 r with ⟨h1, h2⟩ | ⟨i, h1, h2, h3, h4⟩
      · refine .inl ⟨?_, fun x hx => ?_⟩
        · unfold Lib.index
          rw [if_neg hp, h1]; rfl
        · rcases List.mem_cons.1 hx with rfl | hx
          · exact h
          · exact h2 x hx
      · refine .inr ⟨i + 1, ?_, by simpa using h2, fun x hx => ?_, ?_⟩
        · unfold Lib.index
          rw [if_neg hp, h1, if_neg (by simp)]; rfl
        · rw [List.take_succ_cons] at hx
          rcases List.mem_cons.1 hx with rfl | hx
          · exact h
          · exact h3 x hx
        · rw [List.take_succ_cons, List.drop_succ_cons, List.cons_append, ← h4]
theorem splitK_parts : ∀ (n : Nat) (s : List UInt8), s.length ≤ n → Lib.splitK [47] 0 (Lib.count s [47]) s = partsN s := by
  intro n
  induction n with
  | zero =>
    intro s hs
    obtain rfl : s = [] := List.length_eq_zero_iff.1 (by omega)
    rfl
  | succ n ih =>
    intro s hs
    rcases index47 s with ⟨h1, h2⟩ | ⟨i, h1, h2, h3, h4⟩
    · rw [Lib.count_miss h1, partsN_none h2]; rfl
    · rw [Lib.count_hit (by simp) h1, Nat.add_comm, Lib.splitK, if_neg (by rw [h1]; simp), h1]
      show s.take (i + 0) :: Lib.splitK [47] 0 (Lib.count (s.drop (i + 1)) [47]) (s.drop (i + 1)) = _
      rw [ih _ (by simp; omega)]
      conv => rhs; rw [h4]
      rw [partsN_cut _ h3]; rfl
theorem split_parts (s : ByteArray) : (Lib.splitB ⟨#[47]⟩ 0 (Lib.countB s ⟨#[47]⟩) s).map (·.data.toList) = partsN s.data.toList := by
  rw [Lib.splitB_data]
  exact splitK_parts _ _ (Nat.le_refl _)
theorem count_parts (s : ByteArray) : Lib.countB s ⟨#[47]⟩ + 1 = (partsN s.data.toList).length := by
  rw [← split_parts, List.length_map]
  exact (Lib.splitB_all ⟨#[47]⟩ (by decide) 0 _ s rfl).symm

/-- A byte that a name may have. -/
def letB (c : Nat) : Bool := (decide (97 ≤ c) && decide (c ≤ 122)) || (decide (48 ≤ c) && decide (c ≤ 57)) || decide (c = 46) || decide (c = 95) || decide (c = 45)
def partB (p : List UInt8) : Bool := !(p == []) && !(p == [46]) && !(p == [46, 46])
/-- Whether a file may have the name. -/
def nameB (l : List UInt8) : Bool := decide (l.length ≤ 40) && !Lib.hasSuffix l [46, 103, 121, 115] && l.all (fun c => letB c.toNat || decide (c.toNat = 47)) && (partsN l).all partB && !((partsN l).head? == some [111, 108, 100]) && !((partsN l).head? == some [116, 109, 112])
theorem nameB_nil : nameB [] = false := by decide +kernel
theorem nameB_iff (l : List UInt8) : nameB l = true ↔ l.length ≤ 40 ∧ Lib.hasSuffix l [46, 103, 121, 115] = false ∧ (∀ c ∈ l, letB c.toNat = true ∨ c.toNat = 47) ∧ (∀ p ∈ partsN l, partB p = true) ∧ (partsN l).head? ≠ some [111, 108, 100] ∧ (partsN l).head? ≠ some [116, 109, 112] := by
  unfold nameB
  simp only [Bool.and_eq_true, decide_eq_true_eq, Bool.not_eq_true', List.all_eq_true, Bool.or_eq_true, beq_eq_false_iff_ne, ne_eq, and_assoc]
end Go.Proofs.YtfgaohilpbocbaaGreatDoor
end

section
namespace Go.Proofs.YtfgaohilpbocbaaGreatDoor
open Go.ChangeShapes Go.WideShapes Go.ChangeAt Go.RowKit Go.Joins
set_option linter.unusedVariables false

/-- What a set holds. -/
structure St where
  slice : Int
  files : List Fil
  slices : List Sm
def zSm : Sm := ⟨0, 0, []⟩
def nameL (l : List Nat) : Bool := nameB (l.map fun k => UInt8.ofNat k)
/-- How long a slice is to be. -/
def wantI (s z : Int) (i : Nat) : Int := min s (z - (i : Int) * s)
structure FileOk (S : St) (n k : Nat) : Prop where
  size : 0 ≤ (S.files.getD k zFil).size
  first : (S.files.getD k zFil).first = (n : Int)
  name : nameL (S.files.getD k zFil).name = true
  once : ∀ j, j < k → (S.files.getD j zFil).name ≠ (S.files.getD k zFil).name
  room : n + cntN (S.files.getD k zFil).size S.slice ≤ S.slices.length
  cut : ∀ i, i < cntN (S.files.getD k zFil).size S.slice → (S.slices.getD (n + i) zSm).n = wantI S.slice (S.files.getD k zFil).size i
/-- The first k files are right, and have n slices. -/
inductive Good (S : St) : Nat → Nat → Prop
  | zero : Good S 0 0
  | next {k n : Nat} (g : Good S k n) (h : k < S.files.length) (ok : FileOk S n k) : Good S (k + 1) (n + cntN (S.files.getD k zFil).size S.slice)
theorem Good.one {S : St} {k : Nat} : ∀ {n m : Nat}, Good S k n → Good S k m → n = m := by
  induction k with
  | zero => intro n m h1 h2; cases h1; cases h2; rfl
  | succ k ih =>
    intro n m h1 h2
    cases h1 with
    | next g1 _ _ => cases h2 with
      | next g2 _ _ => rw [ih g1 g2]
theorem Good.prev {S : St} {k m : Nat} (h : Good S (k + 1) m) : ∃ n, Good S k n ∧ k < S.files.length ∧ FileOk S n k ∧ m = n + cntN (S.files.getD k zFil).size S.slice := by
  cases h with
  | next g h ok => exact ⟨_, g, h, ok, rfl⟩
theorem Good.room {S : St} {k n : Nat} (h : Good S k n) : n ≤ S.slices.length := by
  cases h with
  | zero => exact Nat.zero_le _
  | next g h ok => exact ok.room
theorem Good.le {S : St} {k n : Nat} (h : Good S k n) : k ≤ S.files.length := by
  cases h with
  | zero => exact Nat.zero_le _
  | next g h ok => exact h
/-- Of any fewer files too. -/
theorem Good.down {S : St} {k m : Nat} (h : Good S k m) : ∀ {j : Nat}, j ≤ k → ∃ n, Good S j n ∧ n ≤ m := by
  induction h with
  | zero => intro j hj; obtain rfl : j = 0 := by omega
            exact ⟨0, .zero, Nat.le_refl _⟩
  | @next k n g h ok ih =>
    intro j hj
    by_cases e : j = k + 1
    · subst e; exact ⟨_, .next g h ok, Nat.le_refl _⟩
    · obtain ⟨n', g', h'⟩ := ih (j := j) (by omega)
      exact ⟨n', g', by omega⟩
structure FormedP (S : St) : Prop where
  s1 : 1 ≤ S.slice
  s2 : S.slice ≤ 256
  m1 : S.slices.length ≤ 64
  f1 : 1 ≤ S.files.length
  f2 : S.files.length ≤ 8
  good : Good S S.files.length S.slices.length
/-- If a file isn't right, the set isn't formed. -/
theorem not_formed {S : St} {k n : Nat} (g : Good S k n) (h : k < S.files.length) (hf : FormedP S) : FileOk S n k := by
  obtain ⟨n', g', _⟩ := hf.good.down (j := k + 1) h
  obtain ⟨n2, g2, _, ok, _⟩ := g'.prev
  rw [g.one g2]; exact ok

/-- A file's 35 cells, from a place on. -/
def FilAt (w : World) (p off : Nat) (f : Fil) : Prop := ∀ j, j < 35 → w.cell? ⟨p, off + j, none⟩ = some (filV f j)
theorem FilAt.below {w w' : World} {p off : Nat} {f : Fil} (h : FilAt w p off f) (k : Below w.heap.size w w') : FilAt w' p off f := fun j hj => by
  have hp : p < w.heap.size := World.block_lt_of_cell? w _ (h 0 (by omega))
  exact (k.cell (p := ⟨p, off + j, none⟩) hp).trans (h j hj)
/-- The slice '.slice a l.length cap' reads as these files. -/
structure Fils (w : World) (a : Option Addr) (cap : Nat) (l : List Fil) : Prop where
  rng : ∀ x ∈ l, FilOk x
  len : l.length ≤ cap
  most : cap ≤ maxLen
  here : l = [] ∨ ∃ b off, a = some ⟨b, off, none⟩ ∧ b < w.heap.size ∧ ∀ i (h : i < l.length), FilAt w b (off + i * 35) l[i]
theorem Fils.below {w w' : World} {a : Option Addr} {cap : Nat} {l : List Fil} (h : Fils w a cap l) (k : Below w.heap.size w w') : Fils w' a cap l :=
  ⟨h.rng, h.len, h.most, by
    rcases h.here with e | ⟨b, off, e, hb, hc⟩
    · exact .inl e
    · exact .inr ⟨b, off, e, Nat.lt_of_lt_of_le hb k.size, fun i hi => (hc i hi).below k⟩⟩
theorem fils_one {w : World} {a : Option Addr} {cap : Nat} {l : List Fil} (h : Fils w a cap l) {i : Nat} (hi : i < l.length) : ∃ b off, a = some ⟨b, off, none⟩ ∧ b < w.heap.size ∧ FilAt w b (off + i * 35) l[i] := by
  rcases h.here with rfl | ⟨b, off, e, hb, hc⟩
  · simp at hi
  · exact ⟨b, off, e, hb, hc i hi⟩
theorem Fils.lt {w : World} {a : Option Addr} {cap : Nat} {l : List Fil} (h : Fils w a cap l) : l.length ≤ 9223372036854775807 := by
  have h1 := h.len; have h2 := h.most; unfold maxLen at h2; omega
/-- A set's three cells. -/
def setV (S : St) (fa : Option Addr) (fc : Nat) (sa : Option Addr) (sc : Nat) (j : Nat) : Value :=
  if j = 0 then .int .i64 S.slice else if j = 1 then .slice fa S.files.length fc else .slice sa S.slices.length sc
structure SetAt (w : World) (S : St) (fa : Option Addr) (fc : Nat) (sa : Option Addr) (sc : Nat) : Prop where
  slice : i64R S.slice
  files : Fils w fa fc S.files
  slices : Sms w sa sc S.slices
theorem SetAt.below {w w' : World} {S : St} {fa : Option Addr} {fc : Nat} {sa : Option Addr} {sc : Nat} (h : SetAt w S fa fc sa sc) (k : Below w.heap.size w w') : SetAt w' S fa fc sa sc := ⟨h.slice, h.files.below k, h.slices.below k⟩
theorem strOf_data {l : List Nat} : (strOf l).data.toList = l.map fun k => UInt8.ofNat k := by
  unfold strOf strOfNums
  simp
theorem nameL_eq (l : List Nat) : nameL l = nameB (strOf l).data.toList := by rw [strOf_data]; rfl
end Go.Proofs.YtfgaohilpbocbaaGreatDoor
end

section
namespace Go.Proofs.YtfgaohilpbocbaaGreatDoor
open Go.ChangeShapes Go.WideShapes Go.ChangeAt Go.RowKit Go.Joins
set_option linter.unusedVariables false

theorem read_n {l : List Nat} {n : Nat} (h1 : 1 ≤ n) (h2 : n ≤ 6) (h : n ≤ l.length) : ansN (some l) (n : Int) = numN (l.take n) ∧ restN (some l) (n : Int) = some (l.drop n) := by
  have e : gN (some l) (n : Int) = some (l.take n, l.drop n) := by
    unfold gN takeI
    rw [if_pos ⟨by omega, by omega⟩]
    simp only [Option.bind_some]
    rw [if_pos ⟨by omega, by omega⟩]
    simp
  exact ⟨by unfold ansN; rw [e]; rfl, by unfold restN; rw [e]; rfl⟩
theorem read_r {l : List Nat} {n : Nat} (h : n ≤ l.length) : ansR (some l) (n : Int) = l.take n ∧ restR (some l) (n : Int) = some (l.drop n) := by
  have e : takeI (some l) (n : Int) = some (l.take n, l.drop n) := by
    unfold takeI
    simp only [Option.bind_some]
    rw [if_pos ⟨by omega, by omega⟩]
    simp
  exact ⟨by unfold ansR; rw [e]; rfl, by unfold restR; rw [e]; rfl⟩
theorem inN_read {B : Nat} {X : Nat → Prop} {w : World} {b : Nat} {l : List Nat} (h : InAt B X w b (some l)) (n : Nat) (z : Int) (hz : z = (n : Int)) (h1 : 1 ≤ n) (h2 : n ≤ 6) (hl : n ≤ l.length) :
    Calls Tryz.prog 121 #[.pointer (some ⟨b, 0, none⟩), .int .i64 z] w fun e w' => e = .returned (.int .i64 ((numN (l.take n) : Nat) : Int)) ∧ InAt B X w' b (some (l.drop n)) ∧ Fr X w w' := by
  subst hz
  have k := inN_any B X w b _ (n : Int) h ⟨by omega, by omega⟩
  rw [(read_n h1 h2 hl).1, (read_n h1 h2 hl).2] at k
  exact k
theorem inR_read {B : Nat} {X : Nat → Prop} {w : World} {b : Nat} {l : List Nat} (h : InAt B X w b (some l)) (n : Nat) (z : Int) (hz : z = (n : Int)) (hl : n ≤ l.length) :
    Calls Tryz.prog 86 #[.pointer (some ⟨b, 0, none⟩), .int .i64 z] w fun e w' => (∃ a c, e = .returned (.slice a n c) ∧ Sl w' a c (l.take n) ∧ ∀ p, a = some p → w.heap.size ≤ p.block) ∧ InAt B X w' b (some (l.drop n)) ∧ Fr X w w' := by
  subst hz
  have hm := h.2.2
  have k := inR_any B X w b _ (n : Int) h ⟨by omega, by
    obtain ⟨_, _, _, _, h5, _⟩ := hm
    simp only [Option.getD_some] at h5
    omega⟩
  rw [(read_r hl).1, (read_r hl).2, List.length_take, Nat.min_eq_left hl] at k
  exact k
theorem Row.fr {X : Nat → Prop} {w w' : World} {g n k : Nat} {ty : TypeId} {F : Nat → Value} (h : Row w g ty n k F) (f : Fr X w w') (hx : ¬ X g) : Row w' g ty n k F := by
  have hl := h.lt
  obtain ⟨cs, h1, h2, h3⟩ := h
  exact ⟨cs, (f.block g hl hx).trans h1, h2, h3⟩
theorem u32_wrap (n : Nat) (h : n < 4294967296) : IntKind.u32.wrap (n : Int) = (n : Int) := by
  simp [IntKind.wrap, IntKind.signed, IntKind.bits]
  omega

/-- What of the sums is read behind k of them. -/
structure SumSt (B : Nat) (X : Nat → Prop) (w : World) (b S c : Nat) (m : List Nat) (k p : Nat) (q : Nat) (wr : World) : Prop where
  row : Row wr S 52 (34 * c) (34 * k + p) (smF m)
  inn : InAt B X wr b (some (m.drop (38 * k + q)))
  fr : Fr X w wr
theorem SumSt.call {B : Nat} {X : Nat → Prop} {w : World} {b S c : Nat} {m : List Nat} {k p q q' : Nat} {wr w2 : World} (h : SumSt B X w b S c m k p q wr) (hS : ¬ X S) (h1 : InAt B X w2 b (some (m.drop (38 * k + q')))) (h2 : Fr X wr w2) : SumSt B X w b S c m k p q' w2 :=
  ⟨h.row.fr h2 hS, h1, h.fr.trans h2⟩
theorem SumSt.set {B : Nat} {X : Nat → Prop} {w : World} {b S c : Nat} {m : List Nat} {k p q : Nat} {wr : World} (h : SumSt B X w b S c m k p q wr) (hS : ¬ X S) (hw : w.heap.size ≤ S) (hc : 34 * k + p < 34 * c) {v : Value} (hv : v = smF m (34 * k + p)) {i : Nat} (hi : i = 34 * k + p) : SumSt B X w b S c m k (p + 1) q (wr.setCell ⟨S, i, none⟩ v) := by
  subst hi
  exact ⟨h.row.set hc hv, h.inn.keep (Y := fun j => j = S) (Fr.set (X := fun j => j = S) (p := ⟨S, 34 * k + p, none⟩) (Fr.refl _ wr) (fun _ => rfl) v) (fun j hj e => hS (e ▸ hj)), h.fr.set (p := ⟨S, _, none⟩) (fun e => by simp at e; omega) v⟩

set_option maxRecDepth 1000000 in
set_option maxHeartbeats 4000000 in
theorem readSums_any (B : Nat) (X : Nat → Prop) (w : World) (b : Nat) (m : List Nat) (c : Nat) (hin : InAt B X w b (some m)) (hm : m.length = 38 * c) :
    Calls Tryz.prog 125 #[.pointer (some ⟨b, 0, none⟩), .int .i64 (c : Int)] w fun e w' => ∃ S, e = .returned (.slice (some ⟨S, 0, none⟩) c c) ∧ Row w' S 52 (34 * c) (34 * c) (smF m) ∧ w.heap.size ≤ S ∧ InAt B X w' b (some []) ∧ Fr X w w' := by
  have mixed : Tryz.prog.follows .mixedOrders = true := by kernel_rfl
  have hm6 : m.length ≤ 60000 := by
    obtain ⟨_, _, _, _, _, _, h, _⟩ := hin
    exact h
  have hbm : IsByte m := by
    obtain ⟨_, _, _, _, _, h, _⟩ := hin
    exact h.byte
  obtain ⟨cs, hcs, hmk⟩ := make_sms c (by omega) w
  have hXlt : ∀ j, X j → j < w.heap.size := fun j hj => (hin.2.1 j hj).2
  have hS : ¬ X w.heap.size := fun h => by have := hXlt _ h; omega
  have HSt : Hid (SumSt B X w b w.heap.size c m 0 0 0 (w.alloc (.cells cs 52))) := by
    have hb : Below w.heap.size w (w.alloc (.cells cs 52)) := (Below.refl _ _).alloc (Nat.le_refl _) _
    have hr := Row.new w cs 52 (smF m)
    rw [hcs] at hr
    exact ⟨hr, hin.keep (Fr.of_below (X := fun _ => False) hb) (fun _ _ h => h), Fr.of_below hb⟩
  have HBM := Lib.hid hbm
  have HML := Lib.hid hm
  have hc6 : c ≤ 2000 := by omega
  have HNS := Lib.hid hS
  clear hbm hcs hXlt hin hm hS
  go_enter Tryz.func125, Tryz.ntmps125
  go_wp2_with fail
  obtain ⟨S, hSS⟩ : ∃ S, S = w.heap.size := ⟨_, rfl⟩
  have hwS : w.heap.size ≤ S := by omega
  rw [← hSS] at HSt HNS ⊢
  generalize w.alloc (.cells cs 52) = w0 at *
  clear hSS hmk
  go_loopw [11] (fun j wr => ∃ k : Nat, k ≤ c ∧ j = .int .i64 (k : Int) ∧ Hid (SumSt B X w b S c m k 0 0 wr)) (fun j _ => c - (intOf j).toNat)
  case atStart => exact ⟨0, by omega, rfl, HSt⟩
  case round =>
    obtain ⟨k, hk, rfl, HA⟩ := hrel
    clear HSt
    by_cases hlt : k < c
    · have hkz : (k : Int) < (c : Int) := by omega
      have hml : 38 ≤ (m.drop (38 * k)).length := by rw [List.length_drop, HML.out]; omega
      have HN := Lib.hid (inN_read (l := m.drop (38 * k)) HA.out.inn 2 2 rfl (by omega) (by omega) (by omega))
      rw [List.drop_drop] at HN
      have HV1 : Hid (Value.int .i64 ((numN ((m.drop (38 * k)).take 2) : Nat) : Int) = smF m (34 * k)) := by show _ = _; rw [smF_0]; rfl
      obtain ⟨V1, hV1⟩ : ∃ V1, V1 = numN ((m.drop (38 * k)).take 2) := ⟨_, rfl⟩
      rw [← hV1] at HN HV1
      clear hV1
      go_wp2_with fail
      (with_reducible refine HN.out.mono ?_)
      rintro e w1 ⟨rfl, hi, hf⟩
      have HA1 := Lib.hid (HA.out.call HNS.out hi hf)
      obtain ⟨v0, c0⟩ := HA1.out.row.has (34 * k) (by omega)
      have f0 := HA1.out.row.loose (34 * k)
      rw [show 34 * k = k * 34 by omega] at c0 f0
      clear hi hf HN HA
      go_upto_region 6 with fail
      have HA2 := Lib.hid (HA1.out.set HNS.out hwS (by omega) HV1.out (i := k * 34) (by omega))
      clear HA1 HV1 c0 f0
      generalize w1.setCell ⟨S, k * 34, none⟩ (.int .i64 (V1 : Int)) = w2 at *
      have HN2 := Lib.hid (inN_read (l := m.drop (38 * k + 2)) HA2.out.inn 4 4 rfl (by omega) (by omega) (by rw [List.length_drop, HML.out]; omega))
      rw [List.drop_drop] at HN2
      have HV2 : Hid (Value.int .u32 ((numN ((m.drop (38 * k + 2)).take 4) : Nat) : Int) = smF m (34 * k + 1)) := by show _ = _; rw [smF_1]; unfold rdSm; simp only [List.drop_drop]
      have hw2 : IntKind.u32.wrap ((numN ((m.drop (38 * k + 2)).take 4) : Nat) : Int) = ((numN ((m.drop (38 * k + 2)).take 4) : Nat) : Int) := u32_wrap _ (num_lt (n := 4) _ (fun y hy => HBM.out y (List.mem_of_mem_drop (List.mem_of_mem_take hy))) (by rw [List.length_take, List.length_drop, HML.out]; omega))
      obtain ⟨V2, hV2⟩ : ∃ V2, V2 = numN ((m.drop (38 * k + 2)).take 4) := ⟨_, rfl⟩
      rw [← hV2] at HN2 HV2 hw2
      clear hV2
      go_wp2_with fail
      (with_reducible refine HN2.out.mono ?_)
      rintro e w3 ⟨rfl, hi, hf⟩
      have HA3 := Lib.hid (HA2.out.call (q' := 6) HNS.out (by rw [show 38 * k + 6 = 38 * k + 2 + 4 by omega]; exact hi) hf)
      obtain ⟨v0, c0⟩ := HA3.out.row.has (34 * k + 1) (by omega)
      have f0 := HA3.out.row.loose (34 * k + 1)
      rw [show 34 * k = k * 34 by omega] at c0 f0
      clear hi hf HN2 HA2
      go_upto_region 7 with fail
      have HA4 := Lib.hid (HA3.out.set HNS.out hwS (by omega) HV2.out (i := k * 34 + 1) (by omega))
      clear HA3 HV2 c0 f0 hw2
      generalize w3.setCell ⟨S, k * 34 + 1, none⟩ (.int .u32 (V2 : Int)) = w4 at *
      obtain ⟨wd, hwd⟩ : ∃ wd, wd = w4.drew := ⟨_, rfl⟩
      have HAd : Hid (SumSt B X w b S c m k 2 6 wd) := by
        have hb : Below w4.heap.size w4 wd := by rw [hwd]; exact (Below.refl _ _).drew
        exact HA4.out.call HNS.out (HA4.out.inn.keep (Fr.of_below (X := fun _ => False) hb) fun _ _ h => h) (Fr.of_below hb)
      clear HA4
      have HR := Lib.hid (inR_read (l := m.drop (38 * k + 6)) HAd.out.inn 32 32 rfl (by rw [List.length_drop, HML.out]; omega))
      rw [List.drop_drop] at HR
      have hdl : ((m.drop (38 * k + 6)).take 32).length = 32 := by rw [List.length_take, List.length_drop, HML.out]; omega
      refine growK_begin 7 (fun w' => ∃ u : KeepW wd X, w' = u.v) (by kernel_rfl) ?_
      rw [← hwd]
      clear hwd
      refine growK_take (by kernel_rfl) [0, 1, 2, 3, 4, 5] 2 _ _ (by kernel_rfl) _ (keep_class (Fr.refl _ _)) ?_
      simp only [opsAt, List.getElem?_toArray, List.getElem?_cons_succ, List.getElem?_cons_zero]
      repeat (first | go_big_quiet_step (fail) | quiet_step (fail))
      refine wpQuiet_nil ?_
      refine growK_one 6 (by kernel_rfl) (fun K hK => ?_)
      simp only [stepOf, List.getElem?_toArray, List.getElem?_cons_succ, List.getElem?_cons_zero]
      go_simp
      go_at_call 86
      (with_reducible refine HR.out.mono ?_)
      rintro e w5 ⟨⟨sa, sc, rfl, hs, hnew⟩, hi, hf⟩
      have HA5 := Lib.hid (HAd.out.call (q' := 38) HNS.out (by rw [show 38 * k + 38 = 38 * k + 6 + 32 by omega]; exact hi) hf)
      have HS5 := Lib.hid hs
      refine hK.out _ _ (keep_class hf) ?_
      clear hK K hs hnew hi hf HR HAd
      refine growK_last (by kernel_rfl) (by kernel_rfl) (fun K hK => ?_)
      simp only [stepOf, List.getElem?_toArray, List.getElem?_cons_succ, List.getElem?_cons_zero]
      rw [if_pos (by rfl)]
      refine wp_copyB _ (.tmp 31) (.tmp 33) rfl S (k * 34 + 2) (34 * c) (34 * k + 2) (34 * (k + 1) + 0) 32 32 (smF m) (smF m) 52 rfl sa sc 32 _ rfl hdl HA5.out.row HS5.out (by rw [hdl]; exact Nat.le_refl _) (by omega) (by omega) (fun j hj => ?_) ?_
      · rw [hdl]
        by_cases hj2 : j < 34 * k + 2
        · exact .inr ⟨by omega, hj2, rfl⟩
        · refine .inl ⟨by omega, by omega, ?_⟩
          obtain ⟨i, rfl⟩ : ∃ i, j = 34 * k + 2 + i := ⟨j - (34 * k + 2), by omega⟩
          rw [smF_2 m k i (by omega), show 34 * k + 2 + i - (k * 34 + 2) = i by omega]
          unfold rdSm
          simp only [List.drop_drop]
      intro w6 hr6 hf6
      have HA6 : Hid (SumSt B X w b S c m (k + 1) 0 0 w6) := ⟨hr6.out, by
        have := HA5.out.inn.keep hf6.out fun j hj e => HNS.out (e ▸ hj)
        rw [show 38 * k + 38 = 38 * (k + 1) + 0 by omega] at this
        exact this, HA5.out.fr.over hf6.out fun j hj => .inr (by omega)⟩
      clear hr6 hf6 HA5 HS5
      refine hK.out _ _ ?_
      clear hK K
      go_wp2_with fail
      go_roundw
      case rel => exact ⟨k + 1, by omega, by go_num, HA6⟩
      case measure => simp [intOf]; omega
    · obtain rfl : k = c := by omega
      go_wp2_with fail
      go_ret
      have hi := HA.out.inn
      rw [show m.drop (38 * k + 0) = [] by rw [List.drop_eq_nil_of_le]; rw [HML.out]; omega] at hi
      exact ⟨S, rfl, HA.out.row, hwS, hi, HA.out.fr⟩
end Go.Proofs.YtfgaohilpbocbaaGreatDoor
end

section
namespace Go.Proofs.YtfgaohilpbocbaaGreatDoor
open Go.ChangeShapes Go.WideShapes Go.ChangeAt Go.RowKit Go.Joins
set_option linter.unusedVariables false

section
variable (p : Pk) (sa : Option Addr) (sc : Nat) (da : Option Addr) (dc : Nat)
theorem pkV_kind (v : Int) : ∀ j, j < 51 → pkV { p with kind := v } sa sc da dc j = if j = 8 then .int .i64 v else pkV p sa sc da dc j := fun j hj => by
  by_cases h : j = 8
  · subst h; rfl
  · simp only [pkV, h, if_false]
theorem pkV_slice (v : Int) : ∀ j, j < 51 → pkV { p with slice := v } sa sc da dc j = if j = 9 then .int .i64 v else pkV p sa sc da dc j := fun j hj => by
  by_cases h : j = 9
  · subst h; rfl
  · simp only [pkV, h, if_false]
theorem pkV_files (v : Int) : ∀ j, j < 51 → pkV { p with files := v } sa sc da dc j = if j = 10 then .int .i64 v else pkV p sa sc da dc j := fun j hj => by
  by_cases h : j = 10
  · subst h; rfl
  · simp only [pkV, h, if_false]
theorem pkV_slices (v : Int) : ∀ j, j < 51 → pkV { p with slices := v } sa sc da dc j = if j = 11 then .int .i64 v else pkV p sa sc da dc j := fun j hj => by
  by_cases h : j = 11
  · subst h; rfl
  · simp only [pkV, h, if_false]
theorem pkV_index (v : Int) : ∀ j, j < 51 → pkV { p with index := v } sa sc da dc j = if j = 12 then .int .i64 v else pkV p sa sc da dc j := fun j hj => by
  by_cases h : j = 12
  · subst h; rfl
  · simp only [pkV, h, if_false]
theorem pkV_id (v : Nat) : ∀ j, j < 51 → pkV { p with id := v } sa sc da dc j = if j = 49 then .int .u32 (v : Int) else pkV p sa sc da dc j := fun j hj => by
  by_cases h : j = 49
  · subst h; rfl
  · simp only [pkV, h, if_false]
theorem pkV_sums (v : List Sm) (sa' : Option Addr) (sc' : Nat) : ∀ j, j < 51 → pkV { p with sums := v } sa' sc' da dc j = if j = 48 then .slice sa' v.length sc' else pkV p sa sc da dc j := fun j hj => by
  by_cases h : j = 48
  · subst h; rfl
  · simp only [pkV, h, if_false]
theorem pkV_data (v : List Nat) (da' : Option Addr) (dc' : Nat) : ∀ j, j < 51 → pkV { p with data := v } sa sc da' dc' j = if j = 50 then .slice da' v.length dc' else pkV p sa sc da dc j := fun j hj => by
  by_cases h : j = 50
  · subst h; rfl
  · rw [if_neg h]
    unfold pkV
    (repeat' split) <;> first | rfl | (exfalso; omega)
theorem pkV_file (f g : Fil) (i : Nat) (v : Value) (hi : 13 ≤ i) (hi2 : i < 48) (hf : ∀ j, j < 35 → filV g j = if j = i - 13 then v else filV f j) : ∀ j, j < 51 → pkV { p with file := g } sa sc da dc j = if j = i then v else pkV { p with file := f } sa sc da dc j := fun j hj => by
  by_cases h : 13 ≤ j ∧ j < 48
  · rw [pkV_fil _ _ _ _ _ h.1 h.2, pkV_fil _ _ _ _ _ h.1 h.2, hf _ (by omega)]
    by_cases e : j = i
    · rw [if_pos e, if_pos (by omega)]
    · rw [if_neg e, if_neg (by omega)]
  · rw [if_neg (by omega)]
    unfold pkV
    (repeat' split) <;> first | rfl | (exfalso; omega)
end
theorem filV_name (f : Fil) (l : List Nat) : ∀ j, j < 35 → filV { f with name := l } j = if j = 13 - 13 then .string (strOf l) else filV f j := fun j hj => by
  by_cases h : j = 0
  · subst h; rfl
  · simp only [filV, h, if_false, Nat.sub_self]
theorem filV_size (f : Fil) (v : Int) : ∀ j, j < 35 → filV { f with size := v } j = if j = 14 - 13 then .int .i64 v else filV f j := fun j hj => by
  by_cases h : j = 1
  · subst h; rfl
  · rw [if_neg h]
    simp only [filV, h, if_false]
theorem filV_first (f : Fil) (v : Int) : ∀ j, j < 35 → filV { f with first := v } j = if j = 47 - 13 then .int .i64 v else filV f j := fun j hj => by
  by_cases h : j = 34
  · subst h; rfl
  · rw [if_neg h]
    unfold filV
    (repeat' split) <;> first | rfl | (exfalso; omega)
/-- A packet that is read into: its block P, the In's b. -/
structure RdSt (B : Nat) (X : Nat → Prop) (w : World) (P b : Nat) (p : Pk) (sa : Option Addr) (sc : Nat) (da : Option Addr) (dc : Nat) (s : Option (List Nat)) (wr : World) : Prop where
  row : Row wr P 100 51 51 (pkV p sa sc da dc)
  inn : InAt B X wr b s
  fr : Fr (fun j => X j ∨ j = P) w wr
theorem RdSt.call {B : Nat} {X : Nat → Prop} {w : World} {P b : Nat} {p : Pk} {sa : Option Addr} {sc : Nat} {da : Option Addr} {dc : Nat} {s s' : Option (List Nat)} {wr w2 : World} (h : RdSt B X w P b p sa sc da dc s wr) (hP : ¬ X P) (h1 : InAt B X w2 b s') (h2 : Fr X wr w2) : RdSt B X w P b p sa sc da dc s' w2 :=
  ⟨h.row.fr h2 hP, h1, h.fr.trans (h2.mono fun j _ hj => .inl hj)⟩
theorem RdSt.set {B : Nat} {X : Nat → Prop} {w : World} {P b : Nat} {p : Pk} {sa : Option Addr} {sc : Nat} {da : Option Addr} {dc : Nat} {s : Option (List Nat)} {wr : World} (h : RdSt B X w P b p sa sc da dc s wr) (hP : ¬ X P) {i : Nat} (hi : i < 51) {v : Value} (p' : Pk) (sa' : Option Addr) (sc' : Nat) (da' : Option Addr) (dc' : Nat) (hv : ∀ j, j < 51 → pkV p' sa' sc' da' dc' j = if j = i then v else pkV p sa sc da dc j) : RdSt B X w P b p' sa' sc' da' dc' s (wr.setCell ⟨P, i, none⟩ v) :=
  ⟨(h.row.upd i hi v).mono (Nat.le_refl _) fun j hj => (hv j hj).symm, h.inn.keep (Y := fun j => j = P) (Fr.set (X := fun j => j = P) (p := ⟨P, i, none⟩) (Fr.refl _ wr) (fun _ => rfl) v) (fun j hj e => hP (e ▸ hj)), h.fr.set (p := ⟨P, i, none⟩) (fun _ => .inr rfl) v⟩

theorem InAt.byte {B : Nat} {X : Nat → Prop} {w : World} {b : Nat} {s : Option (List Nat)} (h : InAt B X w b s) : ∀ l, s = some l → IsByte l := fun l e => by
  obtain ⟨_, _, _, _, _, h4, _⟩ := h
  subst e
  exact h4.byte
theorem InAt.short {B : Nat} {X : Nat → Prop} {w : World} {b : Nat} {s : Option (List Nat)} (h : InAt B X w b s) : leftI s ≤ 60000 := by
  obtain ⟨_, _, _, _, _, _, h5, _⟩ := h
  exact h5
theorem ansN_lt {s : Option (List Nat)} (hb : ∀ l, s = some l → IsByte l) (n : Nat) (z : Int) (hz : z = (n : Int)) : ansN s z < 256 ^ n := by
  subst hz
  unfold ansN
  cases h : gN s (n : Int) with
  | none => simp; exact Nat.pow_pos (by omega)
  | some p =>
    obtain ⟨x, r⟩ := p
    obtain ⟨h1, h2⟩ := gN_some h
    simp only [Option.map_some, Option.getD_some]
    exact num_lt x (fun y hy => hb _ h1 y (by simp [hy])) h2
theorem restN_none_ans {s : Option (List Nat)} {z : Int} (h : restN s z = none) : ansN s z = 0 := by
  unfold restN at h
  unfold ansN
  cases hg : gN s z with
  | none => rfl
  | some p => rw [hg] at h; cases h
theorem restN_of_none (z : Int) : restN none z = none := by unfold restN gN takeI; split <;> rfl
/-- What copy leaves of 32 bytes that may not be there. -/
def dgOr (x : List Nat) : List Nat := if x.length = 32 then x else List.replicate 32 0
theorem raw_32 (s : Option (List Nat)) : (ansR s 32).length = 32 ∨ (ansR s 32 = [] ∧ restR s 32 = none) := by
  unfold ansR restR takeI
  cases s with
  | none => exact .inr ⟨rfl, rfl⟩
  | some l =>
    simp only [Option.bind_some]
    by_cases h : (0 : Int) ≤ 32 ∧ (32 : Int) ≤ (l.length : Int)
    · rw [if_pos h]
      refine .inl ?_
      simp
      omega
    · rw [if_neg h]
      exact .inr ⟨rfl, rfl⟩
/-- A digest copied into a packet's cells. -/
theorem pkV_digest (p : Pk) (sa : Option Addr) (sc : Nat) (da : Option Addr) (dc : Nat) (f : Fil) (x : List Nat) (hx : x.length = 32 ∨ x = []) (hd : f.dg = List.replicate 32 0) :
    ∀ j, j < 51 → (15 ≤ j ∧ j < 15 + x.length ∧ pkV { p with file := { f with dg := dgOr x } } sa sc da dc j = vOf x (j - 15)) ∨ ((j < 15 ∨ 15 + x.length ≤ j) ∧ j < 51 ∧ pkV { p with file := { f with dg := dgOr x } } sa sc da dc j = pkV { p with file := f } sa sc da dc j) := fun j hj => by
  rcases hx with hx | rfl
  · rw [hx]
    by_cases h : 15 ≤ j ∧ j < 47
    · refine .inl ⟨h.1, by omega, ?_⟩
      rw [pkV_fil _ _ _ _ _ (by omega) (by omega)]
      unfold filV dgOr
      rw [if_pos hx, if_neg (by omega), if_neg (by omega), if_pos (by omega), show j - 13 - 2 = j - 15 by omega]
    · refine .inr ⟨by omega, hj, ?_⟩
      by_cases h2 : 13 ≤ j ∧ j < 48
      · rw [pkV_fil _ _ _ _ _ h2.1 h2.2, pkV_fil _ _ _ _ _ h2.1 h2.2]
        unfold filV
        (repeat' split) <;> first | rfl | (exfalso; omega)
      · unfold pkV
        (repeat' split) <;> first | rfl | (exfalso; omega)
  · refine .inr ⟨by simp; omega, hj, ?_⟩
    have e : dgOr [] = f.dg := by rw [hd]; rfl
    rw [e]
set_option maxRecDepth 1000000 in
set_option maxHeartbeats 1000000 in
theorem readSums0_any (B : Nat) (X : Nat → Prop) (w : World) (b : Nat) (s : Option (List Nat)) (hin : InAt B X w b s) :
    Calls Tryz.prog 125 #[.pointer (some ⟨b, 0, none⟩), .int .i64 0] w fun e w' => ∃ S, e = .returned (.slice (some ⟨S, 0, none⟩) 0 0) ∧ w.heap.size ≤ S ∧ InAt B X w' b s ∧ Fr X w w' := by
  obtain ⟨cs, hcs, hmk⟩ := make_sms 0 (by omega) w
  have hmk' : (Instr.makeSlice 28 (.int .i64 0) (.int .i64 0)).run Tryz.prog w = .ok (.slice (some ⟨w.heap.size, 0, none⟩) 0 0) (w.alloc (.cells cs 52)) := hmk
  have hb : Below w.heap.size w (w.alloc (.cells cs 52)) := (Below.refl _ _).alloc (Nat.le_refl _) _
  have HI := Lib.hid (And.intro (hin.keep (Fr.of_below (X := fun _ => False) hb) (fun _ _ h => h)) (Fr.of_below (X := X) hb))
  clear hin hb hmk
  go_enter Tryz.func125, Tryz.ntmps125
  go_wp2_with fail
  go_loopw [11] (fun j wr => j = .int .i64 0 ∧ Hid (wr = w.alloc (.cells cs 52))) (fun j _ => 0)
  case atStart => exact ⟨rfl, Lib.hid rfl⟩
  case round =>
    obtain ⟨rfl, HW⟩ := hrel
    have hw := HW.out
    subst hw
    go_wp2_with fail
    go_ret
    exact ⟨_, rfl, Nat.le_refl _, HI.out.1, HI.out.2⟩
end Go.Proofs.YtfgaohilpbocbaaGreatDoor
end
