/-
  The document's digest: the message that is filled up.
-/
import Derived.Test.YtfgaohilpbocbaaGreatDoorMm7
import Derived.Deep.Cut
section
namespace Go.Proofs.YtfgaohilpbocbaaGreatDoor.Sha
open Go.ChangeShapes Go.WideShapes Go.ChangeAt Go.RowKit
set_option linter.unusedVariables false

def kV (i : Nat) : Value := .int .u64 ((kN i : Nat) : Int)
def hV (x : S8) (i : Nat) : Value := .int .u64 ((x.get i : Nat) : Int)
theorem oneCell_k (n : Nat) : (rowArr n kV).all (·.oneCell') = true := by simp [rowArr, kV, Value.oneCell']
theorem oneCell_h (x : S8) (n : Nat) : (rowArr n (hV x)).all (·.oneCell') = true := by simp [rowArr, hV, Value.oneCell']

/-- A whole row is written into the block that was made last. -/
theorem wp_store_fresh {w : World} {ops : Array Oper} {rest : List Oper} {o : Oper} {a : Act} {Q : Exit → Act → World → Prop} (hgd : o.guard = none) (ty : TypeId) (x y : Operand) (ho : o.op = .store ty x y)
    (g : Nat) (cells : Array Value) (hx : a.eval x = .pointer (some ⟨g, 0, none⟩)) (hy : a.eval y = .agg cells)
    (w0 : World) (old : Array Value) (hw : w = w0.alloc (.cells old ty)) (hg : g = w0.heap.size) (hi : (Tryz.prog.info? ty).map (·.size) = some cells.size)
    (hold : old.size = cells.size) (h1 : cells.all (·.oneCell') = true)
    (h : wpList Tryz.prog ops Q rest (a.put o.dst undef) (w0.alloc (.cells cells ty))) : wpList Tryz.prog ops Q (o :: rest) a w := by
  subst hw hg
  refine wpList_store_row hgd ty x y ho w0.heap.size cells hx hy ty old (heap_alloc_last _ _) hi hold h1 ?_
  rw [World.setRow_alloc_new]
  exact h

theorem wp_build_as {w : World} {ops : Array Oper} {rest : List Oper} {o : Oper} {a : Act} {Q : Exit → Act → World → Prop} (hg : o.guard = none) (t : TypeId) (parts : Array (Nat × Operand)) (ho : o.op = .build t parts)
    (cells : Array Value) (he : Tryz.prog.built t (parts.map fun (i, x) => (i, a.eval x)).toList = some cells)
    (h : wpList Tryz.prog ops Q rest (a.put o.dst (.agg cells)) w) : wpList Tryz.prog ops Q (o :: rest) a w :=
  wpList_build hg t parts ho (by rw [he]; rfl) (by rw [he]; exact h)

theorem wp_append_any {w : World} {ops : Array Oper} {rest : List Oper} {o : Oper} {a : Act} {Q : Exit → Act → World → Prop} (hgd : o.guard = none) (s x : Operand)
    (ho : o.op = .call { callee := .builtin .append, args := #[s, x], argTypes := #[53, 53] }) (base : Nat) (v : Value) (l news : List Nat) (hs : a.eval s = v) (hown : Own w base v l)
    (ad : Option Addr) (n c : Nat) (hn : news.length = n) (hx : a.eval x = .slice ad n c) (hnone : ad = none → n = 0 ∧ c = 0) (hc : BytesAt w ad news)
    (hlen : l.length + news.length ≤ 2000000) (hbase : base ≤ w.heap.size) (w0 : World) (hb : Below base w0 w)
    (h : ∀ v' w', Hid (Own w' base v' (l ++ news)) → Hid (Below base w0 w') → wpList Tryz.prog ops Q rest (a.put o.dst v') w') : wpList Tryz.prog ops Q (o :: rest) a w := by
  cases ad with
  | none =>
    obtain ⟨rfl, rfl⟩ := hnone rfl
    obtain rfl : news = [] := List.length_eq_zero_iff.1 hn
    obtain ⟨i0, hi, hz0, hz1, hz2⟩ := info_parts info5
    exact wpList_append_own_none hgd s x 53 ho base 5 i0 1 Tryz.underlying53 hi v l.length (l.map byteV) hs hown hx (h v w (by rw [List.append_nil]; exact hown) hb)
  | some ad =>
    refine wp_append hgd s x ho base v l news hs hown ad n c hn hx (fun j hj => ?_) hlen hbase w0 hb h
    rcases hc with rfl | ⟨b, off, e, hbi⟩
    · simp at hj
    · cases e
      have := hbi j hj
      by_cases j0 : j = 0
      · subst j0; simpa [Addr.add, byteV] using this
      · simpa [Addr.add, j0, byteV] using this

theorem own_empty {w : World} {base g : Nat} (hg : w.heap[g]? = some (.cells #[] 5 (0, 0))) (hb : base ≤ g) : Own w base (.slice (some ⟨g, 0, none⟩) 0 0) [] :=
  ⟨rfl, .inr ⟨g, 0, #[], rfl, hb, hg, Nat.le_refl _, by unfold maxLen; omega, rfl, rfl⟩⟩

theorem Own.alloc {w : World} {base : Nat} {v : Value} {l : List Nat} (h : Own w base v l) (o : Obj) : Own (w.alloc o) base v l := h.below ((Below.refl w.heap.size w).alloc (Nat.le_refl _) o) (Nat.le_refl _)

def sliceLen : Value → Nat | .slice _ n _ => n | _ => 0

/-- One byte more. -/
theorem wp_append1 {w w1 : World} {ops : Array Oper} {rest : List Oper} {o : Oper} {a : Act} {Q : Exit → Act → World → Prop} (hgd : o.guard = none) (s x : Operand)
    (ho : o.op = .call { callee := .builtin .append, args := #[s, x], argTypes := #[53, 53] }) (base : Nat) (v : Value) (l : List Nat) (c : Nat) (hs : a.eval s = v) (hown : Own w1 base v l)
    (hw : w = w1.alloc (.cells #[.int .u8 (c : Int)] 5)) (hx : a.eval x = .slice (some ⟨w1.heap.size, 0, none⟩) 1 1) (hlen : l.length + 1 ≤ 2000000) (hbase : base ≤ w1.heap.size) (w0 : World) (hb : Below base w0 w1)
    (h : ∀ v' w', Hid (Own w' base v' (l ++ [c])) → Hid (Below base w0 w') → wpList Tryz.prog ops Q rest (a.put o.dst v') w') : wpList Tryz.prog ops Q (o :: rest) a w := by
  subst hw
  refine wp_append hgd s x ho base v l [c] hs (hown.alloc _) ⟨w1.heap.size, 0, none⟩ 1 1 rfl hx (fun j hj => ?_) hlen (by simp; omega) w0 (hb.alloc hbase _) h
  obtain rfl : j = 0 := by simpa using hj
  show (w1.alloc (.cells #[.int .u8 (c : Int)] 5)).cell? ((⟨w1.heap.size, 0, none⟩ : Addr).add 0) = _
  simp [Addr.add, byteV]

theorem own_size {w w0 : World} {base : Nat} (h : Below base w0 w) (hs : base ≤ w0.heap.size) : base ≤ w.heap.size := Nat.le_trans hs h.size

theorem own_next {w : World} {base g c j n : Nat} {l : List Nat} (h : Own w base (.slice (some ⟨g, 0, none⟩) (l ++ 128 :: List.replicate j 0 ++ [0]).length c) (l ++ 128 :: List.replicate j 0 ++ [0])) (hn : n = l.length + 1 + j) :
    Own w base (.slice (some ⟨g, 0, none⟩) (n + 1) c) (l ++ 128 :: List.replicate (j + 1) 0) := by
  have e : l ++ 128 :: List.replicate j 0 ++ [0] = l ++ 128 :: List.replicate (j + 1) 0 := by
    rw [List.replicate_succ', List.append_assoc, List.cons_append]
  rw [e] at h
  have hlen : (l ++ 128 :: List.replicate (j + 1) 0).length = n + 1 := by simp; omega
  rw [hlen] at h
  exact h

theorem be64_wide (n : Nat) : ∀ j (h : j < (be64 n).length), (be64 n)[j] = wideN n j := by
  intro j h
  have hj : j < 8 := by simpa [be64] using h
  simp only [be64, List.getElem_map, List.getElem_range, wideN]
  rw [show 256 ^ (7 - j) = 2 ^ (8 * (7 - j)) by rw [Nat.pow_mul]]

theorem len_next {l : List Nat} {j n : Nat} (h : n = l.length + 1 + j) : (l ++ 128 :: List.replicate j 0 ++ [0]).length = n + 1 := by
  subst h
  simp only [List.length_append, List.length_cons, List.length_replicate, List.length_nil]
  omega

theorem wd_cells {W w5 : World} {v : Nat} (h : Wd W w5 v 8) : ∀ i (hi : i < (be64 v).length), w5.cell? ((⟨W.heap.size, 0, none⟩ : Addr).add i) = some (byteV (be64 v)[i]) := by
  intro i hi
  have hi8 : i < 8 := by simpa [be64] using hi
  have hc := h.2.cell i hi8
  simp only [show (8 : Nat) - 8 ≤ i by omega, if_true] at hc
  rw [be64_wide]
  have ha : (⟨W.heap.size, 0, none⟩ : Addr).add i = ⟨W.heap.size, i, none⟩ := by unfold Addr.add; split <;> simp_all
  rw [ha]
  exact hc

theorem wide_at (v : Nat) (m : Int) (hm : m = (v : Int)) (hv : v < 18446744073709551616) (w : World) :
    Calls Tryz.prog 77 #[.int .u64 m, .int .i64 8] w fun e w' => e = .returned (.slice (some ⟨w.heap.size, 0, none⟩) 8 8) ∧ Wd w w' v 8 := by
  subst hm; exact wide_any v hv w

/-- The three rows that the digest keeps: the end's, the constants, the state. -/
structure Rf (W wr : World) (x : S8) : Prop where
  below : Below W.heap.size W wr
  out : Row wr W.heap.size 50 32 0 zV
  ks : Row wr (W.heap.size + 1) 174 64 64 kV
  hs : Row wr (W.heap.size + 2) 175 8 8 (hV x)

theorem rf_start (w : World) : Rf w (((w.alloc (.cells (rowArr 32 zV) 50)).alloc (.cells (rowArr 64 kV) 174)).alloc (.cells (rowArr 8 (hV start8)) 175)) start8 where
  below := (((Below.refl _ _).alloc (Nat.le_refl _) _).alloc (by simp) _).alloc (by simp; omega) _
  out := ((Row.new_whole w _ _ zV _ _ rfl rfl).mono (Nat.zero_le _) (fun j hj => by omega)).alloc _ |>.alloc _
  ks := (Row.new_whole _ _ _ _ _ _ (by simp) rfl).alloc _
  hs := Row.new_whole _ _ _ _ _ _ (by simp) rfl

theorem Rf.keep {W wr w' : World} {x : S8} {B : Nat} (h : Rf W wr x) (hB : W.heap.size + 3 ≤ B) (b : Below B wr w') : Rf W w' x :=
  ⟨h.below.trans (b.mono (by omega)), h.out.below b (by omega), h.ks.below b (by omega), h.hs.below b (by omega)⟩

def wwV (f : Nat → Nat) (i : Nat) : Value := .int .u64 ((wd f i : Nat) : Int)

/-- Inside a block: the three rows, the message, and the words that are filled. -/
structure RQ (W wq : World) (x : S8) (L : List Nat) (g B : Nat) (f : Nat → Nat) (i : Nat) : Prop where
  rf : Rf W wq x
  all : BytesIn wq g 0 L
  ws : Row wq B 174 64 i (wwV f)
  hB : W.heap.size + 3 ≤ B
  hg : g ≠ B

theorem BytesIn.other {w : World} {b off B i : Nat} {l : List Nat} {v : Value} (h : BytesIn w b off l) (hne : b ≠ B) : BytesIn (w.setCell ⟨B, i, none⟩ v) b off l := fun j hj => by
  rw [World.cell?_setCell_other _ _ _ _ (by intro e; cases e; exact hne rfl)]; exact h j hj

theorem Rf.other {W wr : World} {x : S8} {B i : Nat} {v : Value} (h : Rf W wr x) (hB : W.heap.size + 3 ≤ B) : Rf W (wr.setCell ⟨B, i, none⟩ v) x :=
  ⟨h.below.setCell (by show _ ≤ B; omega) _, h.out.other (by omega), h.ks.other (by omega), h.hs.other (by omega)⟩

theorem RQ.set {W wq : World} {x : S8} {L : List Nat} {g B i : Nat} {f : Nat → Nat} (h : RQ W wq x L g B f i) (hi : i < 64) {v : Value} (hv : v = wwV f i) : RQ W (wq.setCell ⟨B, i, none⟩ v) x L g B f (i + 1) :=
  ⟨h.rf.other h.hB, h.all.other h.hg, h.ws.set hi hv, h.hB, h.hg⟩

theorem RQ.drew {W wq : World} {x : S8} {L : List Nat} {g B i : Nat} {f : Nat → Nat} (h : RQ W wq x L g B f i) (q : Nat) : RQ W (wq.drewN q) x L g B f i :=
  ⟨⟨below_drewN h.rf.below q, h.rf.out, h.rf.ks, h.rf.hs⟩, h.all, h.ws, h.hB, h.hg⟩

theorem rq_start {W wr : World} {x : S8} {L : List Nat} {g : Nat} {f : Nat → Nat} (hr : Rf W wr x) (ha : BytesIn wr g 0 L) (hg : g < wr.heap.size) (c : Array Value) (hc : c.size = 64) : RQ W (wr.alloc (.cells c 174)) x L g wr.heap.size f 0 :=
  ⟨hr.keep (B := wr.heap.size) (by have := hr.hs.lt; omega) ((Below.refl _ _).alloc (Nat.le_refl _) _), ha.below (Nat.le_refl _) ((Below.refl _ _).alloc (Nat.le_refl _) _), Row.new' _ _ _ _ _ _ rfl hc, by have := hr.hs.lt; omega, by omega⟩

theorem num4 (f : Nat → Nat) (j : Nat) : numN [f (4 * j), f (4 * j + 1), f (4 * j + 2), f (4 * j + 3)] = be32 f j := by
  simp [numN, be32]

theorem four_in {w : World} {g t j : Nat} {L : List Nat} (h : BytesIn w g 0 L) (hj : t + 4 * j + 4 ≤ L.length) :
    BytesIn w g (t + 4 * j) [L.getD (t + 4 * j) 0, L.getD (t + (4 * j + 1)) 0, L.getD (t + (4 * j + 2)) 0, L.getD (t + (4 * j + 3)) 0] := by
  have key : ∀ i, t + 4 * j + i < L.length → w.cell? ⟨g, t + 4 * j + i, none⟩ = some (.int .u8 ((L.getD (t + 4 * j + i) 0 : Nat) : Int)) := fun i hi => by
    have := h (t + 4 * j + i) hi
    rw [Nat.zero_add] at this
    rw [this]
    simp [List.getD, hi]
  intro i hi
  match i, hi with
  | 0, _ => exact key 0 (by omega)
  | 1, _ => exact key 1 (by omega)
  | 2, _ => exact key 2 (by omega)
  | 3, _ => exact key 3 (by omega)
  | i + 4, h => exact absurd h (by simp)

/-- .. and the state that goes through the rounds. -/
structure RX (W wq : World) (x : S8) (L : List Nat) (g B : Nat) (f : Nat → Nat) (C : Nat) (r : Nat → Value) : Prop where
  rq : RQ W wq x L g B f 64
  xs : Row wq C 175 8 8 r
  hC : W.heap.size + 3 ≤ C
  hgC : g ≠ C
  hBC : B ≠ C

theorem RX.drew {W wq : World} {x : S8} {L : List Nat} {g B C : Nat} {f : Nat → Nat} {r : Nat → Value} (h : RX W wq x L g B f C r) (q : Nat) : RX W (wq.drewN q) x L g B f C r := ⟨h.rq.drew q, h.xs, h.hC, h.hgC, h.hBC⟩

theorem RX.set {W wq : World} {x : S8} {L : List Nat} {g B C : Nat} {f : Nat → Nat} {r r' : Nat → Value} (h : RX W wq x L g B f C r) (i : Nat) (hi : i < 8) (v : Value) (hr : ∀ j, j < 8 → (if j = i then v else r j) = r' j) : RX W (wq.setCell ⟨C, i, none⟩ v) x L g B f C r' :=
  ⟨⟨h.rq.rf.other h.hC, h.rq.all.other h.hgC, h.rq.ws.other h.hBC, h.rq.hB, h.rq.hg⟩, (h.xs.upd i hi v).mono (Nat.le_refl _) hr, h.hC, h.hgC, h.hBC⟩

theorem rx_start {W wq : World} {x : S8} {L : List Nat} {g B : Nat} {f : Nat → Nat} (h : RQ W wq x L g B f 64) (hg : g < wq.heap.size) (r : Nat → Value) : RX W (wq.alloc (.cells (rowArr 8 r) 175)) x L g B f wq.heap.size r :=
  have hb : Below wq.heap.size wq (wq.alloc (.cells (rowArr 8 r) 175)) := (Below.refl _ _).alloc (Nat.le_refl _) _
  ⟨⟨h.rf.keep (B := wq.heap.size) (by have := h.ws.lt; have := h.hB; omega) hb, h.all.below (Nat.le_refl _) hb, h.ws.below hb h.ws.lt, h.hB, h.hg⟩, Row.new_whole _ _ _ _ _ _ rfl rfl, by have := h.ws.lt; have := h.hB; omega, by omega, by have := h.ws.lt; omega⟩

/-- The state's row while the rounds' end is added to it. -/
structure RH (W wq : World) (x m y : S8) (L : List Nat) (g C i : Nat) : Prop where
  below : Below W.heap.size W wq
  out : Row wq W.heap.size 50 32 0 zV
  ks : Row wq (W.heap.size + 1) 174 64 64 kV
  hs : Row wq (W.heap.size + 2) 175 8 8 (fun j => if j < i then hV m j else hV x j)
  all : BytesIn wq g 0 L
  xs : Row wq C 175 8 8 (hV y)
  hC : W.heap.size + 3 ≤ C
  hg : W.heap.size + 3 ≤ g

theorem RH.drew {W wq : World} {x m y : S8} {L : List Nat} {g C i : Nat} (h : RH W wq x m y L g C i) (q : Nat) : RH W (wq.drewN q) x m y L g C i :=
  ⟨below_drewN h.below q, h.out, h.ks, h.hs, h.all, h.xs, h.hC, h.hg⟩

theorem RH.set {W wq : World} {x m y : S8} {L : List Nat} {g C i : Nat} (h : RH W wq x m y L g C i) (hi : i < 8) {v : Value} (hv : v = hV m i) : RH W (wq.setCell ⟨W.heap.size + 2, i, none⟩ v) x m y L g C (i + 1) :=
  ⟨h.below.setCell (by simp) _, h.out.other (by omega), h.ks.other (by omega), (h.hs.upd i hi v).mono (Nat.le_refl _) (fun j hj => by
    by_cases e : j = i
    · subst e; simp [hv]
    · simp only [e, if_false]
      by_cases e2 : j < i
      · simp [e2, Nat.lt_succ_of_lt e2]
      · simp [e2, show ¬ j < i + 1 by omega]), h.all.other (by have := h.hg; omega), h.xs.other (by have := h.hC; omega), h.hC, h.hg⟩

theorem rh_start {W wq : World} {x m y : S8} {L : List Nat} {g B C : Nat} {f : Nat → Nat} (h : RX W wq x L g B f C (hV y)) (hg : W.heap.size + 3 ≤ g) : RH W wq x m y L g C 0 :=
  ⟨h.rq.rf.below, h.rq.rf.out, h.rq.rf.ks, h.rq.rf.hs.mono (Nat.le_refl _) (fun j hj => by simp), h.rq.all, h.xs, h.hC, hg⟩

theorem rh_end {W wq : World} {x m y : S8} {L : List Nat} {g C : Nat} (h : RH W wq x m y L g C 8) : Rf W wq m :=
  ⟨h.below, h.out, h.ks, h.hs.mono (Nat.le_refl _) (fun j hj => by simp [hj])⟩

theorem mixN_get (x y m : S8) (f : Nat → Nat) (hy : y = rnds x f 64) (hm : mixN x f = m) (j : Nat) (hj : j < 8) : m.get j = (x.get j + y.get j) % 4294967296 := by
  rw [← hm]
  unfold mixN
  rw [← hy]
  match j, hj with
  | 0, _ => rfl
  | 1, _ => rfl
  | 2, _ => rfl
  | 3, _ => rfl
  | 4, _ => rfl
  | 5, _ => rfl
  | 6, _ => rfl
  | 7, _ => rfl
  | k + 8, h => omega

/-- The end's bytes. -/
structure RO (W wq : World) (x : S8) (C i : Nat) : Prop where
  below : Below W.heap.size W wq
  out : Row wq W.heap.size 50 32 0 zV
  hs : Row wq (W.heap.size + 2) 175 8 8 (hV x)
  os : Row wq C 50 32 i (spV x)
  hC : W.heap.size + 3 ≤ C

theorem RO.set {W wq : World} {x : S8} {C i : Nat} (h : RO W wq x C i) (hi : i < 32) {v : Value} (hv : v = spV x i) : RO W (wq.setCell ⟨C, i, none⟩ v) x C (i + 1) :=
  ⟨h.below.setCell (by show _ ≤ C; have := h.hC; omega) _, h.out.other (by have := h.hC; omega), h.hs.other (by have := h.hC; omega), h.os.set hi hv, h.hC⟩

theorem ro_start {W wq : World} {x : S8} (h : Rf W wq x) (c : Array Value) (hc : c.size = 32) : RO W (wq.alloc (.cells c 50)) x wq.heap.size 0 :=
  have hb : Below wq.heap.size wq (wq.alloc (.cells c 50)) := (Below.refl _ _).alloc (Nat.le_refl _) _
  have hl := h.hs.lt
  have h2 := h.keep (B := wq.heap.size) (by omega) hb
  ⟨h2.below, h2.out, h2.hs, Row.new' _ _ _ _ _ _ rfl hc, by omega⟩

theorem byte_mask (a s : Nat) (h : a < 4294967296) : bits .and .u64 ((a : Int) / 2 ^ s) 255 % 256 = ((a / 2 ^ s % 256 : Nat) : Int) := by
  have e : ((a : Int) / 2 ^ s) = ((a / 2 ^ s : Nat) : Int) := by simp
  have hb : a / 2 ^ s < 4294967296 := Nat.lt_of_le_of_lt (Nat.div_le_self _ _) h
  have := u64_and_nat (a / 2 ^ s) 255 (by omega) (by omega)
  rw [nat_mask8] at this
  have this2 : bits .and .u64 ((a / 2 ^ s : Nat) : Int) 255 = ((a / 2 ^ s % 256 : Nat) : Int) := this
  rw [e, this2]
  omega

theorem mask32 (a : Nat) (h : a < 18446744073709551616) : bits .and .u64 (a : Int) 4294967295 = ((a % 4294967296 : Nat) : Int) := by
  have := u64_and_nat a 4294967295 h (by omega)
  rw [nat_mask32] at this
  exact this

theorem xor64 (a b : Nat) (ha : a < 4294967296) (hb : b < 4294967296) : bits .xor .u64 (a : Int) (b : Int) = ((a ^^^ b : Nat) : Int) := u64_xor_nat a b (by omega) (by omega)

theorem xor_shr64 (a b s : Nat) (ha : a < 4294967296) (hb : b < 4294967296) : bits .xor .u64 (a : Int) ((b : Int) / (s : Int)) = ((a ^^^ b / s : Nat) : Int) :=
  xor64 a (b / s) ha (Nat.lt_of_le_of_lt (Nat.div_le_self _ _) hb)

theorem wrap64u {a : Nat} (h : a < 18446744073709551616) : IntKind.u64.wrap (a : Int) = (a : Int) := by rw [IntKind.wrap_u64]; omega

theorem turned_still (x n : Nat) (m : Int) (hm : m = (n : Int)) (hx : x < 4294967296) (h1 : 1 ≤ n) (h2 : n ≤ 31) (w : World) :
    Calls Tryz.prog 79 #[.int .u64 (x : Int), .int .u64 m] w fun e w' => e = .returned (.int .u64 ((rotr x n : Nat) : Int)) ∧ w' = w :=
  (turned_any x n m hm hx h1 h2 w).mono fun _ _ ⟨a, b⟩ => ⟨a, b.symm⟩

theorem number4 {w : World} {g t j cap : Nat} {L : List Nat} {f : Nat → Nat} (hf : f = fun i => L.getD (t + i) 0) (hb : IsByte L) (h : BytesIn w g 0 L) (hj : t + 4 * j + 4 ≤ L.length) (hlt : j < 16) :
    Calls Tryz.prog 78 #[.slice (some ⟨g, t + 4 * j, none⟩) 4 cap] w fun e w' => e = .returned (.int .u64 ((wd f j : Nat) : Int)) ∧ w = w' := by
  have hbf : BytesF f := by rw [hf]; exact getD_byte hb t
  have e : [L.getD (t + 4 * j) 0, L.getD (t + (4 * j + 1)) 0, L.getD (t + (4 * j + 2)) 0, L.getD (t + (4 * j + 3)) 0] = [f (4 * j), f (4 * j + 1), f (4 * j + 2), f (4 * j + 3)] := by rw [hf]
  have hin := four_in h hj
  rw [e] at hin
  have := number_any g (t + 4 * j) cap [f (4 * j), f (4 * j + 1), f (4 * j + 2), f (4 * j + 3)] (by simp) w (by
    intro c hc
    simp only [List.mem_cons, List.not_mem_nil, or_false] at hc
    rcases hc with rfl | rfl | rfl | rfl <;> exact hbf _) hin
  rw [num4, ← wd_first f j hlt] at this
  exact this

theorem pad_join (l : List Nat) (j : Nat) (hj : j = gap l.length) : l ++ 128 :: List.replicate j 0 ++ be64 (l.length * 8) = padN l := by
  subst hj
  unfold padN
  rw [List.append_assoc, List.cons_append]

set_option maxRecDepth 100000 in
set_option maxHeartbeats 8000000 in
theorem ref_core (a : Option Addr) (cap : Nat) (l : List Nat) (x0 : S8) (HX0 : Hid (comp (padN l) ((padN l).length / 64) = x0)) (w : World) (hl : l.length ≤ 1000000) (hn : a = none → l.length = 0 ∧ cap = 0) (hb : IsByte l) (hc : BytesAt w a l) :
    Calls Tryz.prog 39 #[.slice a l.length cap] w fun e w' => e = .returned (.agg (rowArr 32 (spV x0))) ∧ Below w.heap.size w w' := by
  have HB := Lib.hid hb
  have HC := Lib.hid hc
  have HN := Lib.hid hn
  clear hb hc hn
  go_enter Tryz.func39, Tryz.ntmps39
  go_upto_region 3 with (first | (refine wp_build_as rfl 174 _ rfl (rowArr 64 kV) (by kernel_rfl) ?_) | (refine wp_build_as rfl 175 _ rfl (rowArr 8 (hV start8)) (by kernel_rfl) ?_) | (refine wp_store_fresh rfl 174 (.tmp 3) (.tmp 20) rfl (w.heap.size + 1) (rowArr 64 kV) rfl rfl _ _ rfl (by simp) (by rw [rowArr_size]; kernel_rfl) (by rw [rowArr_size]; rfl) (oneCell_k 64) ?_) | (refine wp_store_fresh rfl 175 (.tmp 4) (.tmp 21) rfl (w.heap.size + 1 + 1) (rowArr 8 (hV start8)) rfl rfl _ _ rfl (by simp) (by rw [rowArr_size]; kernel_rfl) (by rw [rowArr_size]; rfl) (oneCell_h start8 8) ?_))
  change Code.wp _ _ _ _ (((w.alloc (.cells (rowArr 32 zV) 50)).alloc (.cells (rowArr 64 kV) 174)).alloc (.cells (rowArr 8 (hV start8)) 175))
  have HR3 := Lib.hid (rf_start w)
  have hs3 : (((w.alloc (.cells (rowArr 32 zV) 50)).alloc (.cells (rowArr 64 kV) 174)).alloc (.cells (rowArr 8 (hV start8)) 175)).heap.size = w.heap.size + 3 := by simp
  have HS3 := Lib.hid hs3
  clear hs3
  generalize (((w.alloc (.cells (rowArr 32 zV) 50)).alloc (.cells (rowArr 64 kV) 174)).alloc (.cells (rowArr 8 (hV start8)) 175)) = w3 at *
  have HC3 : Hid (BytesAt (w3.alloc (.cells #[] 5)) a l) := HC.out.below (Nat.le_refl _) (HR3.out.below.alloc (by have := HS3.out; omega) _)
  have HO3 : Hid (Own (w3.alloc (.cells #[] 5)) (w.heap.size + 3) (.slice (some ⟨w3.heap.size, 0, none⟩) 0 0) []) := own_empty (heap_alloc_last _ _) (by have := HS3.out; omega)
  have HB3 : Hid (Below (w.heap.size + 3) w3 (w3.alloc (.cells #[] 5))) := (Below.refl _ _).alloc (by have := HS3.out; omega) _
  have HL3 : Hid (w.heap.size + 3 ≤ (w3.alloc (.cells #[] 5)).heap.size) := by have := HS3.out; show _ ≤ _; simp; omega
  have HBS : Hid (w.heap.size + 3 ≤ w3.heap.size) := by have := HS3.out; show _ ≤ _; omega
  have hl1 : ([] ++ l).length + 1 ≤ 2000000 := by simp; omega
  have HLL := Lib.hid hl1
  clear hl1
  go_wp2_with (first | (refine wp_append_any rfl (.tmp 22) (.tmp 23) rfl (w.heap.size + 3) _ [] l rfl HO3.out a l.length cap rfl rfl HN.out HC3.out (by simp; omega) HL3.out w3 HB3.out ?_; intro v1 w1 HO1 HB1) | (refine wp_append1 rfl (.tmp 24) (.tmp 25) rfl (w.heap.size + 3) v1 ([] ++ l) 128 rfl HO1.out rfl rfl HLL.out (own_size HB1.out HBS.out) w3 HB1.out ?_; intro v2 w2 HO2 HB2; clear HO1 HB1))
  have hne : [] ++ l ++ [128] ≠ [] := by simp
  obtain ⟨g2, cap2, rfl, _, _, _, _, _⟩ := HO2.out.bytes hne
  clear hne
  have HO2' : Hid (Own w2 (w.heap.size + 3) (.slice (some ⟨g2, 0, none⟩) (l.length + 1) cap2) (l ++ 128 :: List.replicate 0 0)) := by
    have := HO2.out
    have e : (([] : List Nat) ++ l ++ [128]).length = l.length + 1 := by simp
    rw [e] at this
    exact this
  have e128 : (([] : List Nat) ++ l ++ [128]).length = l.length + 1 := by simp
  rw [e128]
  clear HO2 e128
  have hg64 : gap l.length < 64 := Nat.mod_lt _ (by omega)
  have HG : Hid (gap l.length = (119 - l.length % 64) % 64) := rfl
  go_loopw [5] (fun v wr => ∃ j n g c : Nat, j ≤ gap l.length ∧ Hid (n = l.length + 1 + j) ∧ n ≤ 1000100 ∧ v = .slice (some ⟨g, 0, none⟩) n c ∧ Hid (Own wr (w.heap.size + 3) (.slice (some ⟨g, 0, none⟩) n c) (l ++ 128 :: List.replicate j 0)) ∧ Hid (Below (w.heap.size + 3) w3 wr)) (fun v _ => 1000100 - (sliceLen v))
  case atStart => exact ⟨0, l.length + 1, g2, cap2, Nat.zero_le _, rfl, by omega, rfl, HO2', HB2⟩
  case round =>
    obtain ⟨j, n, g, c, hj, HNn, hn, rfl, HO, HBj⟩ := hrel
    by_cases hlt : j < gap l.length
    · have ht : ((n : Int) % 64 != 56) = true := by
        have h1 := HNn.out
        have h2 := HG.out
        simp; omega
      have HLL2 : Hid ((l ++ 128 :: List.replicate j 0).length + 1 ≤ 2000000) := by show _ ≤ _; simp; omega
      go_wp2_with (refine wp_append1 rfl (.tmp 31) (.tmp 32) rfl (w.heap.size + 3) (.slice (some ⟨g, 0, none⟩) n c) (l ++ 128 :: List.replicate j 0) 0 rfl HO.out rfl rfl HLL2.out (own_size HBj.out HBS.out) w3 HBj.out ?_; intro v4 w4 HO4 HB4; obtain ⟨g4, cap4, rfl, _, _, _, _, _⟩ := HO4.out.bytes (by simp); have HO5 : Hid (Own w4 (w.heap.size + 3) (.slice (some ⟨g4, 0, none⟩) (n + 1) cap4) (l ++ 128 :: List.replicate (j + 1) 0)) := own_next HO4.out HNn.out; rw [len_next HNn.out]; clear HO4)
      go_roundw
      case rel => exact ⟨j + 1, n + 1, g4, cap4, by omega, by have := HNn.out; show _ = _; omega, by have := HNn.out; omega, rfl, HO5, HB4⟩
      case measure => have := HNn.out; simp [sliceLen]; omega
    · have hjg : j = gap l.length := by omega
      have ht : ((n : Int) % 64 != 56) = false := by
        have h1 := HNn.out
        have h2 := HG.out
        simp; omega
      have HJ := Lib.hid hjg
      clear hjg
      have HWI := Lib.hid (wide_at (l.length * 8) ((l.length : Int) * 8) (by simp) (by omega) wr)
      have HNS : Hid (w.heap.size + 3 ≤ wr.heap.size) := own_size HBj.out HBS.out
      have HLP : Hid ((l ++ 128 :: List.replicate j 0).length + (be64 (l.length * 8)).length ≤ 2000000) := by have := HNn.out; show _ ≤ _; simp [be64]; omega
      go_wp2_with (first | (go_at_call 77; (with_reducible refine HWI.out.mono ?_); rintro e w5 ⟨rfl, hwd⟩; have HO5 : Hid (Own w5 (w.heap.size + 3) (.slice (some ⟨g, 0, none⟩) n c) (l ++ 128 :: List.replicate j 0)) := HO.out.below hwd.1 (Nat.le_refl _); have HB5 : Hid (Below (w.heap.size + 3) w3 w5) := HBj.out.trans (hwd.1.mono HNS.out); have HC5 := Lib.hid (wd_cells hwd); have HN5 : Hid (w.heap.size + 3 ≤ w5.heap.size) := Nat.le_trans HNS.out hwd.1.size; clear hwd) | (refine wp_append rfl (.tmp 34) (.tmp 39) rfl (w.heap.size + 3) (.slice (some ⟨g, 0, none⟩) n c) (l ++ 128 :: List.replicate j 0) (be64 (l.length * 8)) rfl HO5.out ⟨wr.heap.size, 0, none⟩ 8 8 rfl rfl HC5.out HLP.out HN5.out w3 HB5.out ?_; intro v6 w6 HO6 HB6))
      have HO6' : Hid (Own w6 (w.heap.size + 3) v6 (padN l)) := by rw [← pad_join l j HJ.out]; exact HO6.out
      have hpne : padN l ≠ [] := by unfold padN; simp
      obtain ⟨g6, cap6, rfl, hg6, hc6, hm6, hb6, hl6⟩ := HO6'.out.bytes hpne
      have HBY := Lib.hid hb6
      have HRF : Hid (Rf w w6 (comp (padN l) 0)) := HR3.out.keep (Nat.le_refl _) HB6.out
      have HPM := Lib.hid (padN_mod l)
      have hPL : (padN l).length ≤ 1000200 := by have := padN_length l; omega
      unfold maxLen at hm6
      obtain ⟨N, hN⟩ : ∃ N, N = (padN l).length := ⟨_, rfl⟩
      have HNN := Lib.hid hN
      rw [← hN] at hPL hc6 ⊢
      clear hN hb6 hpne HO6 HO6' HB6 HWI HC5 HO5 HB5 HN5 HLP HNS ht HJ HO HBj HC3 HO3 HB3 HL3 HLL
      go_loopw [6] (fun i wr => ∃ k t : Nat, Hid (t = 64 * k) ∧ t ≤ N ∧ i = .int .i64 (t : Int) ∧ Hid (Rf w wr (comp (padN l) k)) ∧ Hid (BytesIn wr g6 0 (padN l))) (fun i _ => N - (intOf i).toNat)
      case atStart => exact ⟨0, 0, rfl, by omega, rfl, HRF, HBY⟩
      case round =>
        obtain ⟨k, t, HT, htN, rfl, HR, HBr⟩ := hrel
        by_cases hlt : t < N
        · have ht64 : t + 64 ≤ N := by have := HT.out; have := HPM.out; have := HNN.out; omega
          obtain ⟨f, hf⟩ : ∃ f : Nat → Nat, f = fun j => (padN l).getD (t + j) 0 := ⟨_, rfl⟩
          have HF := Lib.hid hf
          clear hf
          have HGL : Hid (g6 < wr.heap.size) := World.block_lt_of_cell? wr ⟨g6, 0 + 0, none⟩ (HBr.out 0 (by have := HNN.out; omega))
          have HQ0 := Lib.hid (fun c hc => rq_start (f := f) HR.out HBr.out HGL.out c hc)
          have HFB : Hid (BytesF f) := by rw [HF.out]; exact getD_byte (padN_byte HB.out) t
          go_wp2_with fail
          clear HR HBr HGL
          generalize wr.heap.size = Bw at *
          go_loopw [47] (fun i wr => ∃ j : Nat, j ≤ 16 ∧ i = .int .i64 (j : Int) ∧ Hid (RQ w wr (comp (padN l) k) (padN l) g6 Bw f j)) (fun i _ => 16 - (intOf i).toNat)
          case atStart => exact ⟨0, by omega, rfl, HQ0.out _ rfl⟩
          case round =>
            obtain ⟨j, hj, rfl, HQ⟩ := hrel
            by_cases hlj : j < 16
            · have hlo := HQ.out.ws.loose j
              obtain ⟨vk, hck⟩ := HQ.out.ws.has j (by omega)
              have HNU := Lib.hid (number4 (cap := cap6 - (t + 4 * j)) HF.out (padN_byte HB.out) HQ.out.all (by have := HNN.out; omega) hlj)
              have HS : Hid (RQ w (wr.setCell ⟨Bw, j, none⟩ (.int .u64 ((wd f j : Nat) : Int))) (comp (padN l) k) (padN l) g6 Bw f (j + 1)) := HQ.out.set (by omega) rfl
              go_wp2_with (go_at_call 78; (with_reducible refine HNU.out.mono ?_); rintro e w7 ⟨rfl, rfl⟩)
              go_roundw
              case rel => exact ⟨j + 1, by omega, by go_num, HS⟩
              case measure => simp [intOf]; omega
            · have hj16 : j = 16 := by omega
              subst hj16
              rw [show ((16 : Nat) : Int) = 16 from rfl]
              go_wp2_with fail
              go_loopw [9] (fun i wr => ∃ j : Nat, 16 ≤ j ∧ j ≤ 64 ∧ i = .int .i64 (j : Int) ∧ Hid (RQ w wr (comp (padN l) k) (padN l) g6 Bw f j)) (fun i _ => 64 - (intOf i).toNat)
              case atStart => exact ⟨16, by omega, by omega, rfl, HQ⟩
              case round =>
                obtain ⟨j, hj1, hj2, rfl, HQ⟩ := hrel
                by_cases hlj : j < 64
                · have hrow := HQ.out.ws
                  have q15 := hrow.cell (j - 15) (by omega)
                  have q2 := hrow.cell (j - 2) (by omega)
                  have q16 := hrow.cell (j - 16) (by omega)
                  have q7 := hrow.cell (j - 7) (by omega)
                  have hlo := hrow.loose j
                  obtain ⟨vk, hck⟩ := hrow.has j hlj
                  clear hrow
                  unfold wwV at q15 q2 q16 q7
                  have HW := Lib.hid (wd_next f j hj1)
                  have l15 := wd_lt HFB.out (j - 15)
                  have l2 := wd_lt HFB.out (j - 2)
                  have l16 := wd_lt HFB.out (j - 16)
                  have l7 := wd_lt HFB.out (j - 7)
                  generalize wd f (j - 15) = x at *
                  generalize wd f (j - 2) = y at *
                  generalize wd f (j - 16) = x16 at *
                  generalize wd f (j - 7) = x7 at *
                  have C7 := Lib.hid (fun w => turned_still x 7 7 rfl l15 (by omega) (by omega) w)
                  have C18 := Lib.hid (fun w => turned_still x 18 18 rfl l15 (by omega) (by omega) w)
                  have C17 := Lib.hid (fun w => turned_still y 17 17 rfl l2 (by omega) (by omega) w)
                  have C19 := Lib.hid (fun w => turned_still y 19 19 rfl l2 (by omega) (by omega) w)
                  have r7 := rotr_lt x 7 l15 (by omega)
                  have r18 := rotr_lt x 18 l15 (by omega)
                  have r17 := rotr_lt y 17 l2 (by omega)
                  have r19 := rotr_lt y 19 l2 (by omega)
                  have p1 := xor64 _ _ r7 r18
                  have p2 : bits .xor .u64 ((rotr x 7 ^^^ rotr x 18 : Nat) : Int) ((x : Int) / 8) = ((smallA x : Nat) : Int) := xor_shr64 _ _ 8 (xor_bd r7 r18) l15
                  have p3 := xor64 _ _ r17 r19
                  have p4 : bits .xor .u64 ((rotr y 17 ^^^ rotr y 19 : Nat) : Int) ((y : Int) / 1024) = ((smallE y : Nat) : Int) := xor_shr64 _ _ 1024 (xor_bd r17 r19) l2
                  have sA := smallA_lt l15
                  have sE := smallE_lt l2
                  generalize rotr x 7 ^^^ rotr x 18 = x718 at *
                  generalize rotr y 17 ^^^ rotr y 19 = y179 at *
                  generalize rotr x 7 = x7r at *
                  generalize rotr x 18 = x18r at *
                  generalize rotr y 17 = y17r at *
                  generalize rotr y 19 = y19r at *
                  generalize smallA x = a5 at *
                  generalize smallE y = e5 at *
                  have s1 : IntKind.i64.wrap ((j : Int) - 15) = (j : Int) - 15 := IntWalk.i64_in _ (by omega)
                  have t1 : ((j : Int) - 15).toNat = j - 15 := by omega
                  have u1 : (j : Int) - 15 < 64 := by omega
                  have v1 : (15 : Int) ≤ (j : Int) := by omega
                  have v3 : (0 : Int) ≤ (j : Int) - 15 := by omega
                  go_wp2_with fail
                  go_quiet ((first | (go_at_call 79; with_reducible exact Calls.quiet_of_same (C7.out _)) | (go_at_call 79; with_reducible exact Calls.quiet_of_same (C18.out _))))
                  clear s1 t1 u1 v1 v3 p1 p2 q15
                  have HQ1 : Hid (RQ w (wr.drewN nq) (comp (padN l) k) (padN l) g6 Bw f j) := HQ.out.drew nq
                  have q2' : (wr.drewN nq).cell? ⟨Bw, j - 2, none⟩ = some (.int .u64 (y : Int)) := q2
                  have q16' : (wr.drewN nq).cell? ⟨Bw, j - 16, none⟩ = some (.int .u64 (x16 : Int)) := q16
                  have q7' : (wr.drewN nq).cell? ⟨Bw, j - 7, none⟩ = some (.int .u64 (x7 : Int)) := q7
                  have hck' : (wr.drewN nq).cell? ⟨Bw, j, none⟩ = some vk := hck
                  have hlo' : (wr.drewN nq).frozen? ⟨Bw, j, none⟩ = false := hlo
                  clear q2 q16 q7 hck hlo HQ
                  generalize wr.drewN nq = wq1 at *
                  have s1 : IntKind.i64.wrap ((j : Int) - 2) = (j : Int) - 2 := IntWalk.i64_in _ (by omega)
                  have t1 : ((j : Int) - 2).toNat = j - 2 := by omega
                  have u1 : (j : Int) - 2 < 64 := by omega
                  have v1 : (2 : Int) ≤ (j : Int) := by omega
                  have v3 : (0 : Int) ≤ (j : Int) - 2 := by omega
                  go_wp2_with fail
                  go_quiet ((first | (go_at_call 79; with_reducible exact Calls.quiet_of_same (C17.out _)) | (go_at_call 79; with_reducible exact Calls.quiet_of_same (C19.out _))))
                  clear s1 t1 u1 v1 v3 p3 p4
                  have HQ2 : Hid (RQ w (wq1.drewN nq) (comp (padN l) k) (padN l) g6 Bw f j) := HQ1.out.drew nq
                  have q16 : (wq1.drewN nq).cell? ⟨Bw, j - 16, none⟩ = some (.int .u64 (x16 : Int)) := q16'
                  have q7 : (wq1.drewN nq).cell? ⟨Bw, j - 7, none⟩ = some (.int .u64 (x7 : Int)) := q7'
                  have hck : (wq1.drewN nq).cell? ⟨Bw, j, none⟩ = some vk := hck'
                  have hlo : (wq1.drewN nq).frozen? ⟨Bw, j, none⟩ = false := hlo'
                  clear q2' q16' q7' hck' hlo' HQ1
                  generalize wq1.drewN nq = wq2 at *
                  have s1 : IntKind.i64.wrap ((j : Int) - 16) = (j : Int) - 16 := IntWalk.i64_in _ (by omega)
                  have s2 : IntKind.i64.wrap ((j : Int) - 7) = (j : Int) - 7 := IntWalk.i64_in _ (by omega)
                  have t1 : ((j : Int) - 16).toNat = j - 16 := by omega
                  have t2 : ((j : Int) - 7).toNat = j - 7 := by omega
                  have u1 : (j : Int) - 16 < 64 := by omega
                  have u2 : (j : Int) - 7 < 64 := by omega
                  have v1 : (16 : Int) ≤ (j : Int) := by omega
                  have v2 : (7 : Int) ≤ (j : Int) := by omega
                  have v3 : (0 : Int) ≤ (j : Int) - 16 := by omega
                  have v4 : (0 : Int) ≤ (j : Int) - 7 := by omega
                  have k64 : (j : Int) < 64 := by omega
                  obtain ⟨m1, hm1⟩ : ∃ m, m = x16 + a5 := ⟨_, rfl⟩
                  obtain ⟨m2, hm2⟩ : ∃ m, m = m1 + x7 := ⟨_, rfl⟩
                  obtain ⟨m3, hm3⟩ : ∃ m, m = m2 + e5 := ⟨_, rfl⟩
                  obtain ⟨m4, hm4⟩ : ∃ m, m = m3 % 4294967296 := ⟨_, rfl⟩
                  have g1 : IntKind.u64.wrap ((x16 : Int) + (a5 : Int)) = (m1 : Int) := by rw [IntKind.wrap_u64]; omega
                  have g2 : IntKind.u64.wrap ((m1 : Int) + (x7 : Int)) = (m2 : Int) := by rw [IntKind.wrap_u64]; omega
                  have g3 : IntKind.u64.wrap ((m2 : Int) + (e5 : Int)) = (m3 : Int) := by rw [IntKind.wrap_u64]; omega
                  have g4 : bits .and .u64 (m3 : Int) 4294967295 = (m4 : Int) := by rw [hm4]; exact mask32 m3 (by omega)
                  have HM : Hid (m4 = wd f j) := by rw [HW.out]; show m4 = _; omega
                  have HS : Hid (RQ w (wq2.setCell ⟨Bw, j, none⟩ (.int .u64 (m4 : Int))).drew (comp (padN l) k) (padN l) g6 Bw f (j + 1)) := (HQ2.out.drew 1).set hlj (by rw [HM.out]; rfl)
                  clear hm1 hm2 hm3 hm4
                  go_wp2_with fail
                  refine wp_region_still_tail 16 (by kernel_rfl) (by kernel_rfl) ?_
                  simp only [List.take_succ_cons, List.take_zero, List.drop_succ_cons, List.drop_zero]
                  repeat still_step
                  refine wpStill_nil ?_
                  change wpList _ _ _ _ _ wq2.drew
                  clear s1 s2 t1 t2 u1 u2 v1 v2 v3 v4 g1 g2 g3 g4
                  go_wp2
                  go_roundw
                  case rel => exact ⟨j + 1, by omega, by omega, by go_num, HS⟩
                  case measure => simp [intOf]; omega
                · have hj64 : j = 64 := by omega
                  subst hj64
                  rw [show ((64 : Nat) : Int) = 64 from rfl]
                  have hok := comp_ok (padN l) k
                  have HKN : Hid (∀ m, comp (padN l) k = m → mixN m f = comp (padN l) (k + 1)) := by intro m hm; rw [← hm, HF.out, HT.out]; rfl
                  generalize hx : comp (padN l) k = x at *
                  have HMN : Hid (mixN x f = comp (padN l) (k + 1)) := HKN.out x rfl
                  have HXC := Lib.hid hx
                  clear hx HKN
                  have HGL : Hid (g6 < wr.heap.size) := World.block_lt_of_cell? wr ⟨g6, 0 + 0, none⟩ (HQ.out.all 0 (by have := HNN.out; omega))
                  have HXS := Lib.hid (rx_start HQ.out HGL.out (hV x))
                  have HWH := Lib.hid HQ.out.rf.hs.whole
                  go_wp2_with (first | (refine wpList_load_row rfl 175 (.tmp 4) rfl (w.heap.size + 1 + 1) rfl 175 (rowArr 8 (hV x)) (0, 0) _ HWH.out Tryz.underlying175 rfl (by rw [rowArr_size]; kernel_rfl) ?_) | (refine wp_store_fresh rfl 175 (.tmp 12) (.tmp 119) rfl _ (rowArr 8 (hV x)) rfl rfl _ _ rfl rfl (by rw [rowArr_size]; kernel_rfl) (by rw [rowArr_size]; rfl) (oneCell_h x 8) ?_))
                  clear HWH HQ HGL
                  generalize wr.heap.size = Bx at *
                  go_loopw [120] (fun i wr => ∃ (n : Nat) (y : S8), n ≤ 64 ∧ i = .int .i64 (n : Int) ∧ Hid (y = rnds x f n) ∧ Hid (RX w wr x (padN l) g6 Bw f Bx (hV y))) (fun i _ => 64 - (intOf i).toNat)
                  case atStart => exact ⟨0, x, by omega, rfl, rfl, HXS⟩
                  case round =>
                    obtain ⟨n, y, hn, rfl, HY, HX⟩ := hrel
                    by_cases hlt5 : n < 64
                    · have hrow := HX.out.xs
                      have hYk : y.Ok := by rw [HY.out]; exact rnds_ok hok _ _
                      have hck := HX.out.rq.rf.ks.cell n hlt5
                      have hcw := HX.out.rq.ws.cell n hlt5
                      unfold kV at hck
                      unfold wwV at hcw
                      have hwl := wd_lt HFB.out n
                      have hkl := kN_lt n hlt5
                      obtain ⟨y0, y1, y2, y3, y4, y5, y6, y7⟩ := y
                      obtain ⟨l0, l1, l2, l3, l4, l5, l6, l7⟩ := hYk
                      simp only at l0 l1 l2 l3 l4 l5 l6 l7
                      have c0 : wr.cell? ⟨Bx, 0, none⟩ = some (.int .u64 (y0 : Int)) := hrow.cell 0 (by omega)
                      have c1 : wr.cell? ⟨Bx, 1, none⟩ = some (.int .u64 (y1 : Int)) := hrow.cell 1 (by omega)
                      have c2 : wr.cell? ⟨Bx, 2, none⟩ = some (.int .u64 (y2 : Int)) := hrow.cell 2 (by omega)
                      have c3 : wr.cell? ⟨Bx, 3, none⟩ = some (.int .u64 (y3 : Int)) := hrow.cell 3 (by omega)
                      have c4 : wr.cell? ⟨Bx, 4, none⟩ = some (.int .u64 (y4 : Int)) := hrow.cell 4 (by omega)
                      have c5 : wr.cell? ⟨Bx, 5, none⟩ = some (.int .u64 (y5 : Int)) := hrow.cell 5 (by omega)
                      have c6 : wr.cell? ⟨Bx, 6, none⟩ = some (.int .u64 (y6 : Int)) := hrow.cell 6 (by omega)
                      have c7 : wr.cell? ⟨Bx, 7, none⟩ = some (.int .u64 (y7 : Int)) := hrow.cell 7 (by omega)
                      clear hrow
                      have C6 := Lib.hid (fun w => turned_still y4 6 6 rfl l4 (by omega) (by omega) w)
                      have C11 := Lib.hid (fun w => turned_still y4 11 11 rfl l4 (by omega) (by omega) w)
                      have C25 := Lib.hid (fun w => turned_still y4 25 25 rfl l4 (by omega) (by omega) w)
                      have C2 := Lib.hid (fun w => turned_still y0 2 2 rfl l0 (by omega) (by omega) w)
                      have C13 := Lib.hid (fun w => turned_still y0 13 13 rfl l0 (by omega) (by omega) w)
                      have C22 := Lib.hid (fun w => turned_still y0 22 22 rfl l0 (by omega) (by omega) w)
                      have r6 := rotr_lt y4 6 l4 (by omega)
                      have r11 := rotr_lt y4 11 l4 (by omega)
                      have r25 := rotr_lt y4 25 l4 (by omega)
                      have r2 := rotr_lt y0 2 l0 (by omega)
                      have r13 := rotr_lt y0 13 l0 (by omega)
                      have r22 := rotr_lt y0 22 l0 (by omega)
                      have e1 := xor64 _ _ r6 r11
                      have e2 : bits .xor .u64 ((rotr y4 6 ^^^ rotr y4 11 : Nat) : Int) ((rotr y4 25 : Nat) : Int) = ((bigE y4 : Nat) : Int) := xor64 _ _ (xor_bd r6 r11) r25
                      have e3 := xor64 _ _ r2 r13
                      have e4 : bits .xor .u64 ((rotr y0 2 ^^^ rotr y0 13 : Nat) : Int) ((rotr y0 22 : Nat) : Int) = ((bigA y0 : Nat) : Int) := xor64 _ _ (xor_bd r2 r13) r22
                      have e5 := u64_and_nat y4 y5 (by omega) (by omega)
                      have e6 : bits .xor .u64 4294967295 (y4 : Int) = ((4294967295 ^^^ y4 : Nat) : Int) := u64_xor_nat 4294967295 y4 (by omega) (by omega)
                      have hx4 : 4294967295 ^^^ y4 < 4294967296 := xor_bd (by omega) l4
                      have e7 := u64_and_nat (4294967295 ^^^ y4) y6 (by omega) (by omega)
                      have e8 : bits .or .u64 ((y4 &&& y5 : Nat) : Int) (((4294967295 ^^^ y4) &&& y6 : Nat) : Int) = ((chN y4 y5 y6 : Nat) : Int) := by
                        rw [← ch_or y4 y5 y6 l4]
                        exact u64_or_nat _ _ (by have := and_bd y5 l4; omega) (by have := and_bd y6 hx4; omega)
                      have e9 := u64_and_nat y0 y1 (by omega) (by omega)
                      have e10 := u64_and_nat y0 y2 (by omega) (by omega)
                      have e11 := u64_and_nat y1 y2 (by omega) (by omega)
                      have hm1 := and_bd y1 l0
                      have hm2 := and_bd y2 l0
                      have hm3 := and_bd y2 l1
                      have e12 := u64_or_nat (y0 &&& y1) (y0 &&& y2) (by omega) (by omega)
                      have hm4 := or_bd hm1 hm2
                      have e13 : bits .or .u64 ((y0 &&& y1 ||| y0 &&& y2 : Nat) : Int) ((y1 &&& y2 : Nat) : Int) = ((majN y0 y1 y2 : Nat) : Int) := by
                        rw [← maj_or y0 y1 y2]
                        exact u64_or_nat _ _ (by omega) (by omega)
                      have HN1 : Hid (rnds x f (n + 1) = ⟨(y7 + bigE y4 + chN y4 y5 y6 + kN n + wd f n + (bigA y0 + majN y0 y1 y2)) % 4294967296, y0, y1, y2, (y3 + (y7 + bigE y4 + chN y4 y5 y6 + kN n + wd f n)) % 4294967296, y4, y5, y6⟩) := by
                        show rnd (rnds _ f n) _ _ = _
                        rw [← HY.out]; rfl
                      have h1l := bigE_lt l4
                      have h2l := bigA_lt l0
                      have h3l := chN_lt (u := y5) l4 l6
                      have h4l := majN_lt (r := y2) l0 l1
                      generalize wd f n = c at *
                      generalize kN n = kk at *
                      generalize bigE y4 = bE at *
                      generalize bigA y0 = bA at *
                      generalize chN y4 y5 y6 = ch at *
                      generalize majN y0 y1 y2 = mj at *
                      generalize rotr y4 6 ^^^ rotr y4 11 = z1 at *
                      generalize rotr y0 2 ^^^ rotr y0 13 = z2 at *
                      generalize rotr y4 6 = z3 at *
                      generalize rotr y4 11 = z4 at *
                      generalize rotr y4 25 = z5 at *
                      generalize rotr y0 2 = z6 at *
                      generalize rotr y0 13 = z7 at *
                      generalize rotr y0 22 = z8 at *
                      generalize y0 &&& y1 ||| y0 &&& y2 = z9 at *
                      generalize y0 &&& y1 = z10 at *
                      generalize y0 &&& y2 = z11 at *
                      generalize y1 &&& y2 = z12 at *
                      generalize (4294967295 ^^^ y4) &&& y6 = z13 at *
                      generalize y4 &&& y5 = z14 at *
                      generalize 4294967295 ^^^ y4 = z15 at *
                      obtain ⟨o1, ho1⟩ : ∃ m, m = y7 + bE := ⟨_, rfl⟩
                      obtain ⟨o2, ho2⟩ : ∃ m, m = o1 + ch := ⟨_, rfl⟩
                      obtain ⟨o3, ho3⟩ : ∃ m, m = o2 + kk := ⟨_, rfl⟩
                      obtain ⟨one, ho4⟩ : ∃ m, m = o3 + c := ⟨_, rfl⟩
                      obtain ⟨two, ho5⟩ : ∃ m, m = bA + mj := ⟨_, rfl⟩
                      have g1 : IntKind.u64.wrap ((y7 : Int) + (bE : Int)) = (o1 : Int) := by rw [IntKind.wrap_u64]; omega
                      have g2 : IntKind.u64.wrap ((o1 : Int) + (ch : Int)) = (o2 : Int) := by rw [IntKind.wrap_u64]; omega
                      have g3 : IntKind.u64.wrap ((o2 : Int) + (kk : Int)) = (o3 : Int) := by rw [IntKind.wrap_u64]; omega
                      have g4 : IntKind.u64.wrap ((o3 : Int) + (c : Int)) = (one : Int) := by rw [IntKind.wrap_u64]; omega
                      have g5 : IntKind.u64.wrap ((bA : Int) + (mj : Int)) = (two : Int) := by rw [IntKind.wrap_u64]; omega
                      have hone : one < 21474836480 := by omega
                      have htwo : two < 8589934592 := by omega
                      have HON : Hid (one = y7 + bE + ch + kk + c) := by show one = _; omega
                      have HTW : Hid (two = bA + mj) := ho5
                      clear ho1 ho2 ho3 ho4 ho5
                      have n64 : (n : Int) < 64 := by omega
                      go_wp2_with fail
                      go_quiet ((first | (go_at_call 79; with_reducible exact Calls.quiet_of_same (C6.out _)) | (go_at_call 79; with_reducible exact Calls.quiet_of_same (C11.out _)) | (go_at_call 79; with_reducible exact Calls.quiet_of_same (C25.out _))))
                      clear e1 e2 e5 e6 e7 e8 g1 g2 g3 g4
                      have HX1 : Hid (RX w (wr.drewN nq) x (padN l) g6 Bw f Bx (hV ⟨y0, y1, y2, y3, y4, y5, y6, y7⟩)) := HX.out.drew nq
                      have c0' : (wr.drewN nq).cell? ⟨Bx, 0, none⟩ = some (.int .u64 (y0 : Int)) := c0
                      have c1' : (wr.drewN nq).cell? ⟨Bx, 1, none⟩ = some (.int .u64 (y1 : Int)) := c1
                      have c2' : (wr.drewN nq).cell? ⟨Bx, 2, none⟩ = some (.int .u64 (y2 : Int)) := c2
                      clear c0 c1 c2 c3 c4 c5 c6 c7 hck hcw HX
                      generalize wr.drewN nq = wq1 at *
                      go_wp2_with fail
                      go_quiet ((first | (go_at_call 79; with_reducible exact Calls.quiet_of_same (C2.out _)) | (go_at_call 79; with_reducible exact Calls.quiet_of_same (C13.out _)) | (go_at_call 79; with_reducible exact Calls.quiet_of_same (C22.out _))))
                      clear e3 e4 e9 e10 e11 e12 e13 g5 c0' c1' c2'
                      have HX2 : Hid (RX w (wq1.drewN nq) x (padN l) g6 Bw f Bx (hV ⟨y0, y1, y2, y3, y4, y5, y6, y7⟩)) := HX1.out.drew nq
                      clear HX1
                      generalize wq1.drewN nq = wq2 at *
                      go_wp2_with fail
                      go_loopw [16] (fun i wr => ∃ m : Nat, m ≤ 7 ∧ i = .int .i64 (m : Int) ∧ Hid (RX w wr x (padN l) g6 Bw f Bx (fun i => if m < i then hV ⟨y0, y1, y2, y3, y4, y5, y6, y7⟩ (i - 1) else hV ⟨y0, y1, y2, y3, y4, y5, y6, y7⟩ i))) (fun i _ => (intOf i).toNat)
                      case atStart => exact ⟨7, by omega, rfl, ⟨HX2.out.rq, HX2.out.xs.mono (Nat.le_refl _) (fun j hj => by simp only [show ¬ 7 < j by omega, if_false]), HX2.out.hC, HX2.out.hgC, HX2.out.hBC⟩⟩
                      case round =>
                        obtain ⟨m, hm, rfl, HM⟩ := hrel
                        by_cases hlm : 0 < m
                        · have hcm : wr.cell? ⟨Bx, m - 1, none⟩ = some (.int .u64 (((⟨y0, y1, y2, y3, y4, y5, y6, y7⟩ : S8).get (m - 1) : Nat) : Int)) := by
                            have := HM.out.xs.cell (m - 1) (by omega)
                            simp only [show ¬ m < m - 1 by omega, if_false] at this
                            exact this
                          have hlo := HM.out.xs.loose m
                          obtain ⟨vk, hck⟩ := HM.out.xs.has m (by omega)
                          have HV : Hid (hV ⟨y0, y1, y2, y3, y4, y5, y6, y7⟩ (m - 1) = .int .u64 (((⟨y0, y1, y2, y3, y4, y5, y6, y7⟩ : S8).get (m - 1) : Nat) : Int)) := rfl
                          generalize (⟨y0, y1, y2, y3, y4, y5, y6, y7⟩ : S8).get (m - 1) = vm at *
                          have HS : Hid (RX w (wr.setCell ⟨Bx, m, none⟩ (.int .u64 (vm : Int))) x (padN l) g6 Bw f Bx (fun i => if m - 1 < i then hV ⟨y0, y1, y2, y3, y4, y5, y6, y7⟩ (i - 1) else hV ⟨y0, y1, y2, y3, y4, y5, y6, y7⟩ i)) := HM.out.set m (by omega) _ (fun j hj => by
                            by_cases e : j = m
                            · subst e; simp only [if_true, show j - 1 < j by omega, HV.out]
                            · simp only [e, if_false]
                              by_cases e2 : m < j
                              · simp only [e2, show m - 1 < j by omega, if_true]
                              · simp only [e2, show ¬ m - 1 < j by omega, if_false])
                          have m8 : (m : Int) < 8 := by omega
                          go_wp2_with fail
                          go_roundw
                          case rel => exact ⟨m - 1, by omega, by congr 1; omega, HS⟩
                          case measure => simp [intOf]; omega
                        · have hm0 : m = 0 := by omega
                          subst hm0
                          rw [show ((0 : Nat) : Int) = 0 from rfl]
                          have hc4 : wr.cell? ⟨Bx, 4, none⟩ = some (.int .u64 (y3 : Int)) := HM.out.xs.cell 4 (by omega)
                          have hlo4 := HM.out.xs.loose 4
                          have hlo0 := HM.out.xs.loose 0
                          obtain ⟨v0, hck0⟩ := HM.out.xs.has 0 (by omega)
                          obtain ⟨n4, hn4⟩ : ∃ m, m = (y3 + one) % 4294967296 := ⟨_, rfl⟩
                          obtain ⟨n0, hn0⟩ : ∃ m, m = (one + two) % 4294967296 := ⟨_, rfl⟩
                          have f4 : bits .and .u64 ((y3 : Int) + (one : Int)) 4294967295 = (n4 : Int) := by rw [hn4]; exact mask32 (y3 + one) (by omega)
                          have f0 : bits .and .u64 ((one : Int) + (two : Int)) 4294967295 = (n0 : Int) := by rw [hn0]; exact mask32 (one + two) (by omega)
                          have HY1 : Hid (⟨n0, y0, y1, y2, n4, y4, y5, y6⟩ = rnds x f (n + 1)) := by rw [HN1.out, hn0, hn4, HON.out, HTW.out]; exact rfl
                          have HS4 : Hid (RX w (wr.setCell ⟨Bx, 4, none⟩ (.int .u64 (n4 : Int))) x (padN l) g6 Bw f Bx (fun i => if i = 4 then .int .u64 (n4 : Int) else if 0 < i then hV ⟨y0, y1, y2, y3, y4, y5, y6, y7⟩ (i - 1) else hV ⟨y0, y1, y2, y3, y4, y5, y6, y7⟩ i)) := HM.out.set 4 (by omega) _ (fun j hj => rfl)
                          have HS0 : Hid (RX w ((wr.setCell ⟨Bx, 4, none⟩ (.int .u64 (n4 : Int))).setCell ⟨Bx, 0, none⟩ (.int .u64 (n0 : Int))) x (padN l) g6 Bw f Bx (hV ⟨n0, y0, y1, y2, n4, y4, y5, y6⟩)) := HS4.out.set 0 (by omega) _ (fun j hj => by
                            match j, hj with
                            | 0, _ => rfl
                            | 1, _ => rfl
                            | 2, _ => rfl
                            | 3, _ => rfl
                            | 4, _ => rfl
                            | 5, _ => rfl
                            | 6, _ => rfl
                            | 7, _ => rfl
                            | k + 8, h => omega)
                          clear hn4 hn0
                          go_wp2_with fail
                          go_roundw
                          case rel => exact ⟨n + 1, ⟨n0, y0, y1, y2, n4, y4, y5, y6⟩, by omega, by go_num, HY1, HS0⟩
                          case measure => simp [intOf]; omega
                    · have hn64 : n = 64 := by omega
                      subst hn64
                      rw [show ((64 : Nat) : Int) = 64 from rfl]
                      have hYk : y.Ok := by rw [HY.out]; exact rnds_ok hok _ _
                      have HYO := Lib.hid hYk
                      have HXO := Lib.hid hok
                      have HH : Hid (RH w wr x (comp (padN l) (k + 1)) y (padN l) g6 Bx 0) := rh_start HX.out hg6
                      have HGM := Lib.hid (fun j hj => mixN_get x y (comp (padN l) (k + 1)) f HY.out HMN.out j hj)
                      clear HX hYk
                      generalize hmm : comp (padN l) (k + 1) = mm at *
                      have HME := Lib.hid hmm
                      clear hmm
                      go_wp2_with fail
                      go_loopw [209] (fun i wr => ∃ m : Nat, m ≤ 8 ∧ i = .int .i64 (m : Int) ∧ Hid (RH w wr x mm y (padN l) g6 Bx m)) (fun i _ => 8 - (intOf i).toNat)
                      case atStart => exact ⟨0, by omega, rfl, HH⟩
                      case round =>
                        obtain ⟨m, hm, rfl, HM⟩ := hrel
                        by_cases hlm : m < 8
                        · have hc1 : wr.cell? ⟨w.heap.size + 2, m, none⟩ = some (.int .u64 ((x.get m : Nat) : Int)) := by
                            have := HM.out.hs.cell m hlm
                            simp only [Nat.lt_irrefl, if_false] at this
                            exact this
                          have hc2 : wr.cell? ⟨Bx, m, none⟩ = some (.int .u64 ((y.get m : Nat) : Int)) := HM.out.xs.cell m hlm
                          have hlo : wr.frozen? ⟨w.heap.size + 2, m, none⟩ = false := HM.out.hs.loose m
                          have g1 := S8.get_lt HXO.out m hlm
                          have g2 := S8.get_lt HYO.out m hlm
                          have HV := Lib.hid (HGM.out m hlm)
                          generalize x.get m = a1 at *
                          generalize y.get m = a2 at *
                          obtain ⟨a3, ha3⟩ : ∃ m, m = a1 + a2 := ⟨_, rfl⟩
                          obtain ⟨a4, ha4⟩ : ∃ m, m = a3 % 4294967296 := ⟨_, rfl⟩
                          have f3 : IntKind.u64.wrap ((a1 : Int) + (a2 : Int)) = (a3 : Int) := by rw [IntKind.wrap_u64]; omega
                          have f4 : bits .and .u64 (a3 : Int) 4294967295 = (a4 : Int) := by rw [ha4]; exact mask32 a3 (by omega)
                          have HS : Hid (RH w (wr.setCell ⟨w.heap.size + 2, m, none⟩ (.int .u64 (a4 : Int))).drew x mm y (padN l) g6 Bx (m + 1)) := (HM.out.drew 1).set hlm (by unfold hV; rw [HV.out, ha4, ha3])
                          have m8 : (m : Int) < 8 := by omega
                          clear ha3 ha4
                          go_wp2_with fail
                          refine wp_region_still_tail 10 (by kernel_rfl) (by kernel_rfl) ?_
                          simp only [List.take_succ_cons, List.take_zero, List.drop_succ_cons, List.drop_zero]
                          repeat still_step
                          refine wpStill_nil ?_
                          change wpList _ _ _ _ _ wr.drew
                          clear f3 f4
                          go_wp2
                          go_roundw
                          case rel => exact ⟨m + 1, by omega, by go_num, HS⟩
                          case measure => simp [intOf]; omega
                        · have hm8 : m = 8 := by omega
                          subst hm8
                          go_wp2_with fail
                          go_roundw
                          case rel => exact ⟨k + 1, t + 64, by have := HT.out; show _ = _; omega, by omega, by go_num, by rw [HME.out]; exact rh_end HM.out, HM.out.all⟩
                          case measure => simp [intOf]; omega
        · have htN2 : t = N := by omega
          have hkN : k = (padN l).length / 64 := by have := HT.out; have := HNN.out; omega
          rw [hkN, HX0.out] at HR
          have hok : x0.Ok := by rw [← HX0.out]; exact comp_ok _ _
          have HOK := Lib.hid hok
          have HO0 := Lib.hid (fun c hc => ro_start HR.out c hc)
          clear hok hkN HBr HR
          have hd : decide ((t : Int) < (N : Int)) = false := by simp; omega
          go_wp2_with fail
          clear hd
          generalize wr.heap.size = Bo at *
          go_loopw [223] (fun i wr => ∃ m : Nat, m ≤ 32 ∧ i = .int .i64 (m : Int) ∧ Hid (RO w wr x0 Bo m)) (fun i _ => 32 - (intOf i).toNat)
          case atStart => exact ⟨0, by omega, rfl, HO0.out _ rfl⟩
          case round =>
            obtain ⟨m, hm, rfl, HM⟩ := hrel
            by_cases hlm : m < 32
            · have hc1 : wr.cell? ⟨w.heap.size + 2, m / 4, none⟩ = some (.int .u64 ((x0.get (m / 4) : Nat) : Int)) := HM.out.hs.cell (m / 4) (by omega)
              have hlo := HM.out.os.loose m
              obtain ⟨vk, hck⟩ := HM.out.os.has m hlm
              have g1 := S8.get_lt HOK.out (m / 4) (by omega)
              have HV : Hid (spV x0 m = .int .u8 ((x0.get (m / 4) / 2 ^ (24 - 8 * (m % 4)) % 256 : Nat) : Int)) := rfl
              generalize x0.get (m / 4) = a1 at *
              have m32 : (m : Int) < 32 := by omega
              have HS : Hid (RO w (wr.setCell ⟨Bo, m, none⟩ (.int .u8 (bits .and .u64 ((a1 : Int) / 2 ^ (24 - 8 * (m % 4))) 255 % 256))) x0 Bo (m + 1)) := HM.out.set hlm (by rw [HV.out, byte_mask a1 _ g1])
              go_wp2_with fail
              go_roundw
              case rel => exact ⟨m + 1, by omega, by go_num, HS⟩
              case measure => simp [intOf]; omega
            · have hm32 : m = 32 := by omega
              subst hm32
              have hwh := HM.out.os.whole
              obtain ⟨old, ho1, ho2, _⟩ := HM.out.out
              have HXW : Hid ((wr.setRow w.heap.size (rowArr 32 (spV x0))).heap[w.heap.size]? = some (.cells (rowArr 32 (spV x0)) 50 (0, 0))) := setRow_heap _ _ _ _ _ _ ho1
              go_wp2_with (first | (refine wpList_load_row rfl 50 _ rfl Bo rfl 50 (rowArr 32 (spV x0)) (0, 0) _ hwh Tryz.underlying50 rfl (by rw [rowArr_size]; kernel_rfl) ?_) | (refine wpList_store_row rfl 50 _ _ rfl w.heap.size (rowArr 32 (spV x0)) rfl rfl 50 old ho1 (by rw [rowArr_size]; kernel_rfl) (by rw [rowArr_size]; exact ho2) (oneCell_sp x0 32) ?_))
              exact bodyPost_ret (v := .agg (rowArr 32 (spV x0))) (results_cell_row rfl _ _ w.heap.size 50 (rowArr 32 (spV x0)) (0, 0) _ rfl HXW.out Tryz.underlying50 rfl (by rw [rowArr_size]; kernel_rfl)) rfl ⟨rfl, Go.Proofs.YtfgaohilpbocbaaGreatDoor.Sha.below_setRow HM.out.below (Nat.le_refl _) _⟩

end Go.Proofs.YtfgaohilpbocbaaGreatDoor.Sha
end
