/-
  Packets that came in.
  Layer 14's law functions: few; same, of one packet twice.
  Layer 14's law function same: a packet is like itself, wherever its slices lie.
  The document's Count: how many slices so many bytes are.
  What Decode makes of bytes: plain mathematics.
-/
import Derived.Test.YtfgaohilpbocbaaGreatDoorMm9
import Derived.SizedLaws
import Derived.Deep.Slices
import Derived.Lib.SmallJoins
import Derived.Deep.DeepCutAuto
section
namespace Go.Proofs.YtfgaohilpbocbaaGreatDoor
open Go.ChangeShapes Go.WideShapes Go.ChangeAt Go.RowKit Go.Joins
set_option linter.unusedVariables false

theorem part_get {cs l : List Value} {off n j : Nat} (h : (cs.drop off).take n = l) (hj : j < n) : cs[off + j]? = l[j]? := by
  rw [← h, List.getElem?_take, if_pos hj, List.getElem?_drop]
theorem rowArr_get (N : Nat) (F : Nat → Value) (j : Nat) : (rowArr N F).toList[j]? = if j < N then some (F j) else none := by
  simp [rowArr]
  split <;> simp_all
/-- A string is its bytes. -/
theorem str_of (s : ByteArray) : ∃ l : List Nat, s = strOf l ∧ IsByte l ∧ l.length = s.size := by
  refine ⟨s.data.toList.map fun x => x.toNat, ?_, fun n hn => ?_, by rw [List.length_map, Array.length_toList]; rfl⟩
  · unfold strOf strOfNums
    obtain ⟨⟨d⟩⟩ := s
    simp [Function.comp_def]
  · obtain ⟨x, _, rfl⟩ := List.mem_map.1 hn
    exact x.toNat_lt

section
variable {H : Type} {enc : TypeId × Value → H} {w : World} {base : Nat} {spare : Nat → Bool} {held : Bool}

theorem cells_u8 : Tryz.prog.cellsOf 5 = 1 := by kernel_rfl
/-- An array of bytes. -/
theorem arr_in {n fuel : Nat} {t : TypeId} (ht : Tryz.prog.underlying t = some (.array n 5)) (hc : Tryz.prog.cellsOf t = n) {cs : List Value} {x : DataW H × List MemPlace} (h : DataW.trod enc Tryz.prog w base spare held fuel t cs = some x) :
    ∃ l : List Nat, l.length = n ∧ IsByte l ∧ cs = (rowArr n (vOf l)).toList := by
  obtain ⟨xs, m, _, hx, hlen, hxl, hel⟩ := DataW.trod_array ht h
  have key : ∀ i, i < n → ∃ k : Nat, k < 256 ∧ cs[i]? = some (.int .u8 (k : Int)) := fun i hi => by
    have h1 := hel i hi
    rw [cells_u8, Nat.mul_one, List.getElem?_eq_getElem (by omega)] at h1
    obtain ⟨z, e, _, wz⟩ := DataW.trod_int Tryz.underlying5 h1
    have hz : 0 ≤ z ∧ z ≤ 255 := by simpa [Lit.wf, IntKind.min, IntKind.max, IntKind.signed, IntKind.bits] using wz
    have := part_get (j := 0) e (by omega)
    refine ⟨z.toNat, by omega, ?_⟩
    rw [Nat.add_zero] at this
    rw [this]
    simp
    omega
  obtain ⟨f, hf⟩ := Go.Deep.choose_lt (α := Nat) (p := fun i k => k < 256 ∧ cs[i]? = some (.int .u8 (k : Int))) (n := n) key
  refine ⟨(List.range n).map f, by simp, fun k hk => ?_, ?_⟩
  · obtain ⟨i, hi, rfl⟩ := List.mem_map.1 hk
    exact (hf i (List.mem_range.1 hi)).1
  · apply List.ext_getElem?
    intro i
    rw [rowArr_get]
    by_cases hi : i < n
    · rw [if_pos hi, (hf i hi).2]
      simp [vOf, byteV, List.getD, hi]
    · rw [if_neg hi, List.getElem?_eq_none (by rw [hlen, hc]; omega)]

theorem cells_fil : Tryz.prog.cellsOf 98 = 35 := by kernel_rfl
theorem cells_32 : Tryz.prog.cellsOf 50 = 32 := by kernel_rfl
theorem i64R_of {z : Int} (wz : (Lit.int .i64 z).wf = true) : i64R z := by
  have hz : -9223372036854775808 ≤ z ∧ z ≤ 9223372036854775807 := by simpa [Lit.wf, IntKind.min, IntKind.max, IntKind.signed, IntKind.bits] using wz
  exact hz
set_option maxRecDepth 100000 in
/-- A file's entry. -/
theorem fil_in {fuel : Nat} {cs : List Value} {x : DataW H × List MemPlace} (h : DataW.trod enc Tryz.prog w base spare held fuel 98 cs = some x) :
    ∃ f, FilOk f ∧ cs = (rowArr 35 (filV f)).toList := by
  obtain ⟨xs, n, _, hy, hlen, hxl, hf⟩ := DataW.trod_struct Tryz.underlying98 h
  have hlen2 : cs.length = 35 := hlen.trans cells_fil
  match xs, hxl with
  | [y0, y1, y2, y3], _ =>
    have f0 : DataW.trod enc Tryz.prog w base spare held n 9 ((cs.drop 0).take 1) = some y0 := hf 0 _ rfl
    have f1 : DataW.trod enc Tryz.prog w base spare held n 3 ((cs.drop 1).take 1) = some y1 := hf 1 _ rfl
    have f2 : DataW.trod enc Tryz.prog w base spare held n 50 ((cs.drop 2).take 32) = some y2 := hf 2 _ rfl
    have f3 : DataW.trod enc Tryz.prog w base spare held n 3 ((cs.drop 34).take 1) = some y3 := hf 3 _ rfl
    obtain ⟨s, e0, _, hsl⟩ := DataW.trod_string Tryz.underlying9 f0
    obtain ⟨z1, e1, _, wz1⟩ := DataW.trod_int Tryz.underlying3 f1
    obtain ⟨dg, hd1, hd2, e2⟩ := arr_in Tryz.underlying50 cells_32 f2
    obtain ⟨z3, e3, _, wz3⟩ := DataW.trod_int Tryz.underlying3 f3
    obtain ⟨l, rfl, hlb, hll⟩ := str_of s
    refine ⟨⟨l, z1, dg, z3⟩, ⟨hlb, i64R_of wz1, i64R_of wz3, hd1, hd2, by rw [hll]; unfold maxLen at hsl; omega⟩, ?_⟩
    apply List.ext_getElem?
    intro i
    rw [rowArr_get]
    by_cases hi : i < 35
    · rw [if_pos hi]
      unfold filV
      by_cases i0 : i = 0
      · subst i0
        rw [if_pos rfl]
        exact part_get (j := 0) e0 (by omega)
      · by_cases i1 : i = 1
        · subst i1
          rw [if_neg (by omega), if_pos rfl]
          exact part_get (j := 0) e1 (by omega)
        · by_cases i2 : i < 34
          · rw [if_neg i0, if_neg i1, if_pos i2]
            have := part_get (j := i - 2) e2 (by omega)
            rw [rowArr_get, if_pos (by omega), show 2 + (i - 2) = i by omega] at this
            exact this
          · have e : i = 34 := by omega
            subst e
            rw [if_neg i0, if_neg i1, if_neg i2]
            exact part_get (j := 0) e3 (by omega)
    · rw [if_neg hi, List.getElem?_eq_none (by omega)]

/-! What is known of slices. -/

theorem cells_sm : Tryz.prog.cellsOf 52 = 34 := by kernel_rfl
def smV (x : Sm) (j : Nat) : Value := if j = 0 then .int .i64 x.n else if j = 1 then .int .u32 (x.crc : Int) else vOf x.dg (j - 2)
set_option maxRecDepth 100000 in
theorem sm_in {fuel : Nat} {cs : List Value} {x : DataW H × List MemPlace} (h : DataW.trod enc Tryz.prog w base spare held fuel 52 cs = some x) :
    ∃ y, SmOk y ∧ cs = (rowArr 34 (smV y)).toList := by
  obtain ⟨xs, n, _, hy, hlen, hxl, hf⟩ := DataW.trod_struct Tryz.underlying52 h
  have hlen2 : cs.length = 34 := hlen.trans cells_sm
  match xs, hxl with
  | [y0, y1, y2], _ =>
    have f0 : DataW.trod enc Tryz.prog w base spare held n 3 ((cs.drop 0).take 1) = some y0 := hf 0 _ rfl
    have f1 : DataW.trod enc Tryz.prog w base spare held n 49 ((cs.drop 1).take 1) = some y1 := hf 1 _ rfl
    have f2 : DataW.trod enc Tryz.prog w base spare held n 50 ((cs.drop 2).take 32) = some y2 := hf 2 _ rfl
    obtain ⟨z0, e0, _, wz0⟩ := DataW.trod_int Tryz.underlying3 f0
    obtain ⟨z1, e1, _, wz1⟩ := DataW.trod_int Tryz.underlying49 f1
    obtain ⟨dg, hd1, hd2, e2⟩ := arr_in Tryz.underlying50 cells_32 f2
    have hz1 : 0 ≤ z1 ∧ z1 ≤ 4294967295 := by simpa [Lit.wf, IntKind.min, IntKind.max, IntKind.signed, IntKind.bits] using wz1
    obtain ⟨k, rfl⟩ : ∃ k : Nat, z1 = (k : Int) := ⟨z1.toNat, by omega⟩
    refine ⟨⟨z0, k, dg⟩, ⟨i64R_of wz0, by show k < 4294967296; omega, hd1, hd2⟩, ?_⟩
    apply List.ext_getElem?
    intro i
    rw [rowArr_get]
    by_cases hi : i < 34
    · rw [if_pos hi]
      unfold smV
      by_cases i0 : i = 0
      · subst i0
        rw [if_pos rfl]
        exact part_get (j := 0) e0 (by omega)
      · by_cases i1 : i = 1
        · subst i1
          rw [if_neg (by omega), if_pos rfl]
          exact part_get (j := 0) e1 (by omega)
        · rw [if_neg i0, if_neg i1]
          have := part_get (j := i - 2) e2 (by omega)
          rw [rowArr_get, if_pos (by omega), show 2 + (i - 2) = i by omega] at this
          exact this
    · rw [if_neg hi, List.getElem?_eq_none (by omega)]
set_option maxRecDepth 100000 in
theorem sms_in {fuel : Nat} {c : Value} {x : DataW H × List MemPlace} (h : DataW.trod enc Tryz.prog w base spare held fuel 28 [c] = some x) :
    ∃ a cap l, c = .slice a l.length cap ∧ Sms w a cap l := by
  rcases DataW.trod_slice Tryz.underlying28 h with ⟨hcs, hx⟩ | ⟨a, len, cap, elems, rest, n, _, hcs, hx, hb, hl, hm, hlen, hel, _, _⟩
  · simp only [List.cons.injEq, and_true] at hcs
    exact ⟨none, 0, [], hcs, ⟨fun x hx => (by cases hx), by simp, by unfold maxLen; omega, .inl rfl⟩⟩
  · simp only [List.cons.injEq, and_true] at hcs
    obtain ⟨f, hf⟩ := Go.Deep.choose_lt (α := Sm) (p := fun i v => SmOk v ∧ ∀ j, j < 34 → w.cell? ((a.add (i * 34)).add j) = some (smV v j)) (n := len) fun i hi => by
      have h1 := hel i hi
      rw [cells_sm] at h1
      have hie : i < elems.length := by omega
      rw [List.getElem?_eq_getElem hie] at h1
      obtain ⟨cs, hcs1, hcs2⟩ := Option.bind_eq_some_iff.1 h1
      obtain ⟨y, hy, rfl⟩ := sm_in hcs2
      obtain ⟨_, _, hc⟩ := World.cells?_some hcs1
      refine ⟨y, hy, fun j hj => ?_⟩
      rw [hc j (by omega)]
      have := rowArr_get 34 (smV y) j
      rw [if_pos hj] at this
      exact this
    have hll : ((List.range len).map f).length = len := by simp
    refine ⟨some a, cap, (List.range len).map f, by rw [hll]; exact hcs, ⟨fun x hx => ?_, by rw [hll]; exact hl, hm, ?_⟩⟩
    · obtain ⟨i, hi, rfl⟩ := List.mem_map.1 hx
      exact (hf i (List.mem_range.1 hi)).1
    · by_cases h0 : len = 0
      · exact .inl (List.length_eq_zero_iff.1 (by rw [hll]; exact h0))
      · obtain ⟨b, off, spot⟩ := a
        have hc0 := (hf 0 (by omega)).2 0 (by omega)
        have hc0' : w.cell? (⟨b, off, spot⟩ : Addr) = some (smV (f 0) 0) := by simpa [Addr.add] using hc0
        have hspot : spot = none := World.cell?_spot hc0'
        subst hspot
        have hadd : ∀ r j, ((⟨b, off, none⟩ : Addr).add r).add j = ⟨b, off + r + j, none⟩ := fun r j => by
          by_cases r0 : r = 0 <;> by_cases j0 : j = 0
          · subst r0; subst j0; simp [Addr.add]
          · subst r0; simp [Addr.add, j0]
          · subst j0; simp [Addr.add, r0]
          · simp [Addr.add, r0, j0]
        refine .inr ⟨b, off, rfl, World.block_lt_of_cell? w _ hc0', fun i hi => ?_⟩
        have hi2 : i < len := by rw [hll] at hi; exact hi
        have hgi : ((List.range len).map f)[i] = f i := by simp
        rw [hgi]
        obtain ⟨q, hq⟩ := hf i hi2
        have hq' : ∀ j, j < 34 → w.cell? ⟨b, off + i * 34 + j, none⟩ = some (smV (f i) j) := fun j hj => by rw [← hadd]; exact hq j hj
        refine ⟨hq' 0 (by omega), hq' 1 (by omega), fun j hj => ?_⟩
        have hj32 : j < 32 := by rw [q.2.2.1] at hj; exact hj
        have := hq' (2 + j) (by omega)
        unfold smV at this
        rw [if_neg (by omega), if_neg (by omega), show 2 + j - 2 = j by omega, vOf_eq _ _ hj] at this
        rw [show off + i * 34 + 2 + j = off + i * 34 + (2 + j) by omega]
        exact this

/-! A packet. -/

/-- Its 51 cells. -/
def pkV (p : Pk) (sa : Option Addr) (sc : Nat) (da : Option Addr) (dc : Nat) (j : Nat) : Value :=
  if j < 8 then vOf p.set j else if j = 8 then .int .i64 p.kind else if j = 9 then .int .i64 p.slice else if j = 10 then .int .i64 p.files else if j = 11 then .int .i64 p.slices else if j = 12 then .int .i64 p.index else
  if j < 48 then filV p.file (j - 13) else if j = 48 then .slice sa p.sums.length sc else if j = 49 then .int .u32 (p.id : Int) else .slice da p.data.length dc
theorem pkV_set (p : Pk) (sa : Option Addr) (sc : Nat) (da : Option Addr) (dc : Nat) {j : Nat} (h : j < 8) : pkV p sa sc da dc j = vOf p.set j := by
  unfold pkV
  rw [if_pos h]
theorem pkV_fil (p : Pk) (sa : Option Addr) (sc : Nat) (da : Option Addr) (dc : Nat) {j : Nat} (h : 13 ≤ j) (h2 : j < 48) : pkV p sa sc da dc j = filV p.file (j - 13) := by
  unfold pkV
  rw [if_neg (by omega), if_neg (by omega), if_neg (by omega), if_neg (by omega), if_neg (by omega), if_neg (by omega), if_pos h2]
/-- What a packet's slices lead to. -/
structure PkAt (w : World) (p : Pk) (sa : Option Addr) (sc : Nat) (da : Option Addr) (dc : Nat) : Prop where
  okk : PkIn p
  sums : Sms w sa sc p.sums
  data : Sl w da dc p.data
theorem PkAt.below {w w' : World} {p : Pk} {sa : Option Addr} {sc : Nat} {da : Option Addr} {dc : Nat} (h : PkAt w p sa sc da dc) (k : Below w.heap.size w w') : PkAt w' p sa sc da dc := ⟨h.okk, h.sums.below k, h.data.below k⟩
theorem cells_pk : Tryz.prog.cellsOf 100 = 51 := by kernel_rfl
theorem cells_8 : Tryz.prog.cellsOf 64 = 8 := by kernel_rfl
set_option maxRecDepth 100000 in
set_option maxHeartbeats 1000000 in
theorem pk_in {fuel : Nat} {cs : List Value} {x : DataW H × List MemPlace} (h : DataW.trod enc Tryz.prog w base spare held fuel 100 cs = some x) :
    ∃ p sa sc da dc, cs = (rowArr 51 (pkV p sa sc da dc)).toList ∧ PkAt w p sa sc da dc := by
  obtain ⟨xs, n, _, hy, hlen, hxl, hf⟩ := DataW.trod_struct Tryz.underlying100 h
  have hlen2 : cs.length = 51 := hlen.trans cells_pk
  match xs, hxl with
  | [y0, y1, y2, y3, y4, y5, y6, y7, y8, y9], _ =>
    have f0 : DataW.trod enc Tryz.prog w base spare held n 64 ((cs.drop 0).take 8) = some y0 := hf 0 _ rfl
    have f1 : DataW.trod enc Tryz.prog w base spare held n 3 ((cs.drop 8).take 1) = some y1 := hf 1 _ rfl
    have f2 : DataW.trod enc Tryz.prog w base spare held n 3 ((cs.drop 9).take 1) = some y2 := hf 2 _ rfl
    have f3 : DataW.trod enc Tryz.prog w base spare held n 3 ((cs.drop 10).take 1) = some y3 := hf 3 _ rfl
    have f4 : DataW.trod enc Tryz.prog w base spare held n 3 ((cs.drop 11).take 1) = some y4 := hf 4 _ rfl
    have f5 : DataW.trod enc Tryz.prog w base spare held n 3 ((cs.drop 12).take 1) = some y5 := hf 5 _ rfl
    have f6 : DataW.trod enc Tryz.prog w base spare held n 98 ((cs.drop 13).take 35) = some y6 := hf 6 _ rfl
    have f7 : DataW.trod enc Tryz.prog w base spare held n 28 ((cs.drop 48).take 1) = some y7 := hf 7 _ rfl
    have f8 : DataW.trod enc Tryz.prog w base spare held n 49 ((cs.drop 49).take 1) = some y8 := hf 8 _ rfl
    have f9 : DataW.trod enc Tryz.prog w base spare held n 53 ((cs.drop 50).take 1) = some y9 := hf 9 _ rfl
    have one : ∀ off, off < 51 → ∃ c, (cs.drop off).take 1 = [c] := fun off ho => ⟨cs[off], by
      rw [List.drop_eq_getElem_cons (by omega)]; rfl⟩
    obtain ⟨set, hs8, hsb, e0⟩ := arr_in Tryz.underlying64 cells_8 f0
    obtain ⟨z1, e1, _, wz1⟩ := DataW.trod_int Tryz.underlying3 f1
    obtain ⟨z2, e2, _, wz2⟩ := DataW.trod_int Tryz.underlying3 f2
    obtain ⟨z3, e3, _, wz3⟩ := DataW.trod_int Tryz.underlying3 f3
    obtain ⟨z4, e4, _, wz4⟩ := DataW.trod_int Tryz.underlying3 f4
    obtain ⟨z5, e5, _, wz5⟩ := DataW.trod_int Tryz.underlying3 f5
    obtain ⟨fl, hfl, e6⟩ := fil_in f6
    obtain ⟨c7, e7⟩ := one 48 (by omega)
    rw [e7] at f7
    obtain ⟨sa, sc, sl, rfl, hsm⟩ := sms_in f7
    obtain ⟨z8, e8, _, wz8⟩ := DataW.trod_int Tryz.underlying49 f8
    obtain ⟨c9, e9⟩ := one 50 (by omega)
    rw [e9] at f9
    obtain ⟨da, dc, dl, rfl, hdl⟩ := bytes_in f9
    have hz8 : 0 ≤ z8 ∧ z8 ≤ 4294967295 := by simpa [Lit.wf, IntKind.min, IntKind.max, IntKind.signed, IntKind.bits] using wz8
    obtain ⟨k, rfl⟩ : ∃ k : Nat, z8 = (k : Int) := ⟨z8.toNat, by omega⟩
    refine ⟨⟨set, z1, z2, z3, z4, z5, fl, sl, k, dl⟩, sa, sc, da, dc, ?_, ⟨⟨hs8, hsb, i64R_of wz1, i64R_of wz2, i64R_of wz3, i64R_of wz4, i64R_of wz5, hfl, hsm.rng, by show k < 4294967296; omega, hdl.byte⟩, hsm, hdl⟩⟩
    apply List.ext_getElem?
    intro i
    rw [rowArr_get]
    by_cases hi : i < 51
    · rw [if_pos hi]
      by_cases j1 : i < 8
      · rw [pkV_set _ _ _ _ _ j1]
        have := part_get (j := i) e0 (by omega)
        rw [rowArr_get, if_pos (by omega), Nat.zero_add] at this
        exact this
      · by_cases j2 : 13 ≤ i ∧ i < 48
        · rw [pkV_fil _ _ _ _ _ j2.1 j2.2]
          have := part_get (j := i - 13) e6 (by omega)
          rw [rowArr_get, if_pos (by omega), show 13 + (i - 13) = i by omega] at this
          exact this
        · have hc : i = 8 ∨ i = 9 ∨ i = 10 ∨ i = 11 ∨ i = 12 ∨ i = 48 ∨ i = 49 ∨ i = 50 := by omega
          clear j1 j2 hi
          rcases hc with rfl | rfl | rfl | rfl | rfl | rfl | rfl | rfl
          · exact part_get (j := 0) e1 (by omega)
          · exact part_get (j := 0) e2 (by omega)
          · exact part_get (j := 0) e3 (by omega)
          · exact part_get (j := 0) e4 (by omega)
          · exact part_get (j := 0) e5 (by omega)
          · exact part_get (j := 0) e7 (by omega)
          · exact part_get (j := 0) e8 (by omega)
          · exact part_get (j := 0) e9 (by omega)
    · rw [if_neg hi, List.getElem?_eq_none (by omega)]
set_option maxRecDepth 100000 in
/-- A packet that is handed in. -/
theorem pk_arg {r : Reach} {b0 : Nat} {v : Value} {d : DataW H} {q : List MemPlace} (hv : Value.okWide Tryz.prog w r b0 100 v) (h : DataW.Trod enc Tryz.prog w base spare held 100 v d q) :
    ∃ p sa sc da dc, v = .agg (rowArr 51 (pkV p sa sc da dc)) ∧ PkAt w p sa sc da dc := by
  obtain ⟨cs, rfl, hsz⟩ := okWide_struct Tryz.underlying100 hv
  obtain ⟨fuel, hf⟩ := h
  obtain ⟨p, sa, sc, da, dc, e, hp⟩ := pk_in hf
  have e2 : cs = rowArr 51 (pkV p sa sc da dc) := Array.ext' e
  exact ⟨p, sa, sc, da, dc, by rw [e2], hp⟩
end
end Go.Proofs.YtfgaohilpbocbaaGreatDoor
end

section
namespace Go.Proofs.YtfgaohilpbocbaaGreatDoor
open Go.ChangeShapes Go.WideShapes Go.ChangeAt Go.RowKit Go.Joins
set_option linter.unusedVariables false

/-! Cells loaded as one value. -/

set_option maxRecDepth 100000 in
theorem run_loadVar_cells {P : Program} (w : World) (g off n : Nat) (F : Nat → Value) (ty : TypeId) (d : TypeDesc) (hg : ∀ j, j < n → w.cell? ⟨g, off + j, none⟩ = some (F j))
    (hu : P.underlying ty = some d) (hd : isAggD d = true) (hi : (P.info? ty).map (·.size) = some n) :
    (loadVar ty ⟨g, off, none⟩).run P w = .ok (.agg (rowArr n F)) w := by
  have hlen : (rowArr n F).toList.length = n := by simp [rowArr]
  have hl : (loadCells ⟨g, off, none⟩ (rowArr n F).toList.length).run P w = .ok (rowArr n F).toList.toArray w :=
    run_loadCells_list (P := P) w ⟨g, off, none⟩ (rowArr n F).toList (fun j v hv => by
      have hadd : (⟨g, off, none⟩ : Addr).add j = ⟨g, off + j, none⟩ := by unfold Addr.add; split <;> simp_all
      have hj : j < n := by
        have := (List.getElem?_eq_some_iff.1 hv).1
        omega
      rw [rowArr_get, if_pos hj] at hv
      rw [hadd, hg j hj]
      exact hv)
  rw [hlen] at hl
  cases hq : P.info? ty with
  | none => simp [hq] at hi
  | some i =>
    have hs : i.size = n := by simpa [hq] using hi
    have hagg : (isAgg ty).run P w = .ok true w := by
      unfold isAgg
      rw [Sem.run_bind, run_underlying hu w]
      cases d <;> simp_all [isAggD]
    simp only [Array.toArray_toList] at hl
    simp [loadVar, Sem.run_bind, hagg, sizeOf, typeInfo, hq, hs, hl]
set_option maxRecDepth 100000 in
/-- Loaded where a guard lets it. -/
theorem wpList_load_v {ops : Array Oper} {rest : List Oper} {o : Oper} {a : Act} {w : World} {Q : Exit → Act → World → Prop} (hw : Region.wanted o (yielded ops a.tmps) = true) (ty : TypeId) (x : Operand) (ho : o.op = .load ty x)
    (g off n : Nat) (F : Nat → Value) (V : Array Value) (hV : rowArr n F = V) (hx : a.eval x = .pointer (some ⟨g, off, none⟩)) (d : TypeDesc) (hg : ∀ j, j < n → w.cell? ⟨g, off + j, none⟩ = some (F j))
    (hu : Tryz.prog.underlying ty = some d) (hd : isAggD d = true) (hi : (Tryz.prog.info? ty).map (·.size) = some n)
    (h : wpList Tryz.prog ops Q rest (a.put o.dst (.agg V)) w) : wpList Tryz.prog ops Q (o :: rest) a w :=
  wpList_step fun K hK => by
    rw [if_pos hw]
    subst hV
    unfold Oper.wp execOp
    simp only [ho, hx, Instr.loadAt, Instr.sureAddr, Sem.run_bind, Sem.run_pure, Result.andThen_ok, run_loadVar_cells (P := Tryz.prog) w g off n F ty d hg hu hd hi]
    exact hK _ _ h
set_option maxRecDepth 100000 in
theorem wpQuiet_load_v {ops : Array Oper} {rest : List Oper} {C : World → Prop} {o : Oper} {a : Act} {Q : Act → Prop} (hw : Region.wanted o (yielded ops a.tmps) = true) (ty : TypeId) (x : Operand) (ho : o.op = .load ty x)
    (g off n : Nat) (F : Nat → Value) (V : Array Value) (hV : rowArr n F = V) (hx : a.eval x = .pointer (some ⟨g, off, none⟩)) (d : TypeDesc) (hg : ∀ w, C w → ∀ j, j < n → w.cell? ⟨g, off + j, none⟩ = some (F j))
    (hu : Tryz.prog.underlying ty = some d) (hd : isAggD d = true) (hi : (Tryz.prog.info? ty).map (·.size) = some n)
    (h : wpQuiet Tryz.prog ops C Q rest (a.put o.dst (.agg V))) : wpQuiet Tryz.prog ops C Q (o :: rest) a :=
  wpQuiet_step fun K hK => by
    subst hV
    rw [if_pos hw]
    refine ⟨_, fun w hc => ?_, hK _ h⟩
    unfold Oper.quietAt execOp
    simp only [ho, hx, Instr.loadAt, Instr.sureAddr, Sem.run_bind, Sem.run_pure, Result.andThen_ok, run_loadVar_cells (P := Tryz.prog) w g off n F ty d (hg w hc) hu hd hi]
    exact ⟨rfl, rfl⟩

/-! A packet in a block. -/

/-- The block b is this packet's cells. -/
def PkBlk (w : World) (b : Nat) (p : Pk) (sa : Option Addr) (sc : Nat) (da : Option Addr) (dc : Nat) : Prop := w.heap[b]? = some (.cells (rowArr 51 (pkV p sa sc da dc)) 100 (0, 0))
theorem PkBlk.at {w : World} {b : Nat} {p : Pk} {sa : Option Addr} {sc : Nat} {da : Option Addr} {dc : Nat} (h : PkBlk w b p sa sc da dc) {j : Nat} (hj : j < 51) : w.cell? ⟨b, j, none⟩ = some (pkV p sa sc da dc j) := by
  rw [cell_of_block h]
  simp [rowArr, hj]
theorem PkBlk.lt {w : World} {b : Nat} {p : Pk} {sa : Option Addr} {sc : Nat} {da : Option Addr} {dc : Nat} (h : PkBlk w b p sa sc da dc) : b < w.heap.size := (Array.getElem?_eq_some_iff.1 h).1
theorem PkBlk.below {w w' : World} {b : Nat} {p : Pk} {sa : Option Addr} {sc : Nat} {da : Option Addr} {dc : Nat} (h : PkBlk w b p sa sc da dc) (k : Below w.heap.size w w') : PkBlk w' b p sa sc da dc := (k.block b h.lt).trans h
theorem PkBlk.new (w : World) (p : Pk) (sa : Option Addr) (sc : Nat) (da : Option Addr) (dc : Nat) : PkBlk (w.alloc (.cells (rowArr 51 (pkV p sa sc da dc)) 100)) w.heap.size p sa sc da dc := heap_alloc_last w _
theorem pk_file (p : Pk) (sa : Option Addr) (sc : Nat) (da : Option Addr) (dc : Nat) : (rowArr 35 fun j => pkV p sa sc da dc (13 + j)) = rowArr 35 (filV p.file) := by
  apply Array.ext'
  apply List.ext_getElem?
  intro i
  rw [rowArr_get, rowArr_get]
  by_cases hi : i < 35
  · rw [if_pos hi, if_pos hi, pkV_fil _ _ _ _ _ (by omega) (by omega), show 13 + i - 13 = i by omega]
  · rw [if_neg hi, if_neg hi]
theorem pk_set (p : Pk) (sa : Option Addr) (sc : Nat) (da : Option Addr) (dc : Nat) : (rowArr 8 fun j => pkV p sa sc da dc (0 + j)) = rowArr 8 (vOf p.set) := by
  apply Array.ext'
  apply List.ext_getElem?
  intro i
  rw [rowArr_get, rowArr_get]
  by_cases hi : i < 8
  · rw [if_pos hi, if_pos hi, pkV_set _ _ _ _ _ (by omega), Nat.zero_add]
  · rw [if_neg hi, if_neg hi]

/-! few. -/

def fewPk (p : Pk) : Bool := decide (p.file.name.length ≤ 400) && (decide (p.sums.length ≤ 100) && decide (p.data.length ≤ 400))
end Go.Proofs.YtfgaohilpbocbaaGreatDoor
end

section
namespace Go.Proofs.YtfgaohilpbocbaaGreatDoor
open Go.ChangeShapes Go.WideShapes Go.ChangeAt Go.RowKit Go.Joins
set_option linter.unusedVariables false

theorem fields_sm : (Tryz.prog.fieldsOf 52).toList.map (fun f => (f.name, f.type, f.offset)) = [("Size", 3, 0), ("CRC", 49, 1), ("Digest", 50, 2)] := by kernel_rfl
theorem und_sm : Tryz.prog.underlying 52 = some (.struct (Tryz.prog.fieldsOf 52)) := by kernel_rfl
theorem held_sm : Tryz.prog.stoodInHeld 52 = false := by kernel_rfl
theorem sm_arr (x : Sm) : (rowArr 32 fun j => smV x (2 + j)) = rowArr 32 (vOf x.dg) := by
  apply Array.ext'
  apply List.ext_getElem?
  intro i
  rw [rowArr_get, rowArr_get]
  by_cases hi : i < 32
  · rw [if_pos hi, if_pos hi]
    unfold smV
    rw [if_neg (by omega), if_neg (by omega), show 2 + i - 2 = i by omega]
  · rw [if_neg hi, if_neg hi]
theorem sm_eq (x y : Sm) : (x = y) ↔ x.n = y.n ∧ x.crc = y.crc ∧ x.dg = y.dg := by
  cases x; cases y; simp
instance sm_dec : DecidableEq Sm := fun f g => decidable_of_iff _ (sm_eq f g).symm
set_option maxRecDepth 100000 in
theorem eq_sm {x y : Sm} (hx : SmOk x) (hy : SmOk y) (d : Nat) (w : World) : (Op.equalIn (d + 3) 52 (.agg (rowArr 34 (smV x))) (.agg (rowArr 34 (smV y)))).run Tryz.prog w = .ok (decide (x = y)) w := by
  rw [run_equalIn_struct w (d + 2) 52 _ _ und_sm held_sm, eqF_of, fields_sm]
  have k1 := part_arr (P := Tryz.prog) (ty := 50) (N := 34) (off := 2) (n := 32) (F := smV x) (w := w) (Tryz.isAgg50 w) (Tryz.sizeOf50 w) (by omega)
  have k2 := part_arr (P := Tryz.prog) (ty := 50) (N := 34) (off := 2) (n := 32) (F := smV y) (w := w) (Tryz.isAgg50 w) (Tryz.sizeOf50 w) (by omega)
  rw [sm_arr] at k1 k2
  have e := eqF_cons (P := Tryz.prog) (d := d + 2) (nm := "Size") (ty := 3) (off := 0) (w := w) (by decide) (part_one (N := 34) (F := smV x) (Tryz.isAgg3 w) (by omega)) (part_one (N := 34) (F := smV y) (Tryz.isAgg3 w) (by omega)) (run_equalIn_int w (d + 1) 3 .i64 .i64 x.n y.n Tryz.underlying3)
    (eqF_cons (nm := "CRC") (ty := 49) (off := 1) (by decide) (part_one (N := 34) (F := smV x) (Tryz.isAgg49 w) (by omega)) (part_one (N := 34) (F := smV y) (Tryz.isAgg49 w) (by omega)) (run_equalIn_int w (d + 1) 49 .u32 .u32 (x.crc : Int) (y.crc : Int) Tryz.underlying49)
    (eqF_cons (nm := "Digest") (ty := 50) (off := 2) (by decide) k1 k2 (eq_arr Tryz.underlying50 hx.2.2.2 hy.2.2.2 hx.2.2.1 hy.2.2.1 d w)
    (show (eqF (d + 2) _ _ []).run Tryz.prog w = .ok true w from rfl)))
  rw [e]
  congr 1
  rw [Bool.eq_iff_iff]
  simp [sm_eq, Int.ofNat_inj]
theorem smAt_cells {w : World} {p off : Nat} {x : Sm} (h : SmAt w p off x) (hx : SmOk x) : ∀ j, j < 34 → w.cell? ⟨p, off + j, none⟩ = some (smV x j) := fun j hj => by
  unfold smV
  by_cases j0 : j = 0
  · subst j0
    rw [if_pos rfl]
    exact h.1
  · by_cases j1 : j = 1
    · subst j1
      rw [if_neg (by omega), if_pos rfl]
      exact h.2.1
    · rw [if_neg j0, if_neg j1]
      have hl : j - 2 < x.dg.length := by rw [hx.2.2.1]; omega
      have := h.2.2 (j - 2) hl
      rw [vOf_eq _ _ hl, ← this, show off + 2 + (j - 2) = off + j by omega]

end Go.Proofs.YtfgaohilpbocbaaGreatDoor
end

section
namespace Go.Proofs.YtfgaohilpbocbaaGreatDoor
open Go.ChangeShapes Go.WideShapes Go.ChangeAt Go.RowKit Go.Joins
set_option linter.unusedVariables false

def cntN (n s : Int) : Nat := if n < 1 ∨ s < 1 ∨ 256 < s then 0 else (n.toNat / s.toNat) + (if n.toNat % s.toNat = 0 then 0 else 1)
theorem cntN_le (n s : Int) : cntN n s ≤ n.toNat := by
  unfold cntN
  by_cases h : n < 1 ∨ s < 1 ∨ 256 < s
  · rw [if_pos h]
    omega
  · rw [if_neg h]
    have h1 : 0 < s.toNat := by omega
    have h2 := Nat.div_add_mod n.toNat s.toNat
    obtain ⟨q, hq⟩ : ∃ q, q = n.toNat / s.toNat := ⟨_, rfl⟩
    obtain ⟨r, hr⟩ : ∃ r, r = n.toNat % s.toNat := ⟨_, rfl⟩
    rw [← hq, ← hr] at h2
    rw [← hq, ← hr]
    have h3 : q ≤ s.toNat * q := Nat.le_mul_of_pos_left q h1
    split <;> omega

set_option maxHeartbeats 1000000 in
theorem count_any (n s : Int) (w : World) (hn : i64R n) (hs : i64R s) :
    Calls Tryz.prog 47 #[.int .i64 n, .int .i64 s] w fun e w' => e = .returned (.int .i64 (cntN n s : Nat)) ∧ w = w' := by
  obtain ⟨hn1, hn2⟩ := hn
  obtain ⟨hs1, hs2⟩ := hs
  by_cases h1 : n < 1
  · have HV : Hid (cntN n s = 0) := by show _ = _; unfold cntN; rw [if_pos (.inl h1)]
    go_enter Tryz.func47, Tryz.ntmps47
    go_wp2_with fail
    go_ret
    rw [HV.out]
    exact ⟨rfl, rfl⟩
  · by_cases h2 : s < 1
    · have HV : Hid (cntN n s = 0) := by show _ = _; unfold cntN; rw [if_pos (.inr (.inl h2))]
      go_enter Tryz.func47, Tryz.ntmps47
      go_wp2_with fail
      go_ret
      rw [HV.out]
      exact ⟨rfl, rfl⟩
    · by_cases h3 : 256 < s
      · have HV : Hid (cntN n s = 0) := by show _ = _; unfold cntN; rw [if_pos (.inr (.inr h3))]
        go_enter Tryz.func47, Tryz.ntmps47
        go_wp2_with fail
        go_ret
        rw [HV.out]
        exact ⟨rfl, rfl⟩
      · have HL := Lib.hid (cntN_le n s)
        have hV : cntN n s = (n.toNat / s.toNat) + (if n.toNat % s.toNat = 0 then 0 else 1) := by unfold cntN; rw [if_neg (by omega)]
        have hs0 : s ≠ 0 := by omega
        obtain ⟨N, rfl⟩ : ∃ N : Nat, n = (N : Int) := ⟨n.toNat, by omega⟩
        obtain ⟨S, rfl⟩ : ∃ S : Nat, s = (S : Int) := ⟨s.toNat, by omega⟩
        replace hV : cntN (N : Int) (S : Int) = (N / S) + (if N % S = 0 then 0 else 1) := hV
        have hq : ((N : Int)).tdiv (S : Int) = ((N / S : Nat) : Int) := by rw [Int.tdiv_eq_ediv_of_nonneg (by omega)]; rfl
        have hr : ((N : Int)).tmod (S : Int) = ((N % S : Nat) : Int) := by rw [Int.tmod_eq_emod_of_nonneg (by omega)]; rfl
        have hq2 : N / S ≤ N := Nat.div_le_self _ _
        obtain ⟨q, hqq⟩ : ∃ q, q = N / S := ⟨_, rfl⟩
        obtain ⟨r, hrr⟩ : ∃ r, r = N % S := ⟨_, rfl⟩
        rw [← hqq] at hq hV hq2
        rw [← hrr] at hr hV
        clear hqq hrr
        by_cases h4 : r = 0
        · rw [if_pos h4] at hV
          have HV := Lib.hid hV
          have h4z : (r : Int) = 0 := by omega
          rw [h4z] at hr
          clear hV
          go_enter Tryz.func47, Tryz.ntmps47
          go_wp2_with fail
          go_ret
          rw [HV.out]
          exact ⟨rfl, rfl⟩
        · rw [if_neg h4] at hV
          have HV := Lib.hid hV
          have h4z : (0 : Int) < (r : Int) := by omega
          have hq3 : q + 1 ≤ N := by have := HL.out; rw [hV] at this; omega
          clear hV
          go_enter Tryz.func47, Tryz.ntmps47
          go_wp2_with fail
          go_ret
          rw [HV.out]
          exact ⟨rfl, rfl⟩
end Go.Proofs.YtfgaohilpbocbaaGreatDoor
end

section
namespace Go.Proofs.YtfgaohilpbocbaaGreatDoor
set_option linter.unusedVariables false

/-! Numbers read back. -/

theorem wide_num : ∀ (n : Nat) (x : List Nat), x.length = n → (∀ y ∈ x, y < 256) → wideN (numN x) n = x
  | 0, x, h, _ => by rw [List.length_eq_zero_iff.1 h]; rfl
  | n + 1, x, h, hb => by
    rcases List.eq_nil_or_concat x with rfl | ⟨l, y, rfl⟩
    · simp at h
    · rw [List.concat_eq_append] at h hb ⊢
      rw [numN_snoc, wideN]
      have hy := hb y (by simp)
      have hl : l.length = n := by simpa using h
      rw [show (numN l * 256 + y) / 256 = numN l by omega, show (numN l * 256 + y) % 256 = y by omega, wide_num n l hl fun z hz => hb z (by simp [hz])]
theorem takeI_some {s : Option (List Nat)} {n : Int} {x r : List Nat} (h : takeI s n = some (x, r)) : s = some (x ++ r) ∧ (x.length : Int) = n := by
  cases s with
  | none => simp [takeI] at h
  | some l =>
    simp only [takeI, Option.bind_some] at h
    split at h
    · rename_i hc
      simp only [Option.some.injEq, Prod.mk.injEq] at h
      obtain ⟨rfl, rfl⟩ := h
      exact ⟨by rw [List.take_append_drop], by rw [List.length_take]; omega⟩
    · cases h
theorem gN_some {s : Option (List Nat)} {n : Nat} {x r : List Nat} (h : gN s (n : Int) = some (x, r)) : s = some (x ++ r) ∧ x.length = n := by
  unfold gN at h
  split at h
  · have := takeI_some h
    exact ⟨this.1, by omega⟩
  · cases h
/-- A number that was there. -/
theorem restN_some {s : Option (List Nat)} {n : Nat} {r : List Nat} (h : restN s (n : Int) = some r) : ∃ x, s = some (x ++ r) ∧ x.length = n ∧ ansN s (n : Int) = numN x := by
  unfold restN at h
  cases hg : gN s (n : Int) with
  | none => rw [hg] at h; cases h
  | some p =>
    obtain ⟨x, r'⟩ := p
    rw [hg] at h
    cases h
    obtain ⟨h1, h2⟩ := gN_some hg
    exact ⟨x, h1, h2, by unfold ansN; rw [hg]; rfl⟩
theorem restR_some {s : Option (List Nat)} {n : Nat} {r : List Nat} (h : restR s (n : Int) = some r) : ∃ x, s = some (x ++ r) ∧ x.length = n ∧ ansR s (n : Int) = x := by
  unfold restR at h
  cases hg : takeI s (n : Int) with
  | none => rw [hg] at h; cases h
  | some p =>
    obtain ⟨x, r'⟩ := p
    rw [hg] at h
    cases h
    obtain ⟨h1, h2⟩ := takeI_some hg
    exact ⟨x, h1, by omega, by unfold ansR; rw [hg]; rfl⟩
theorem restT_some {s : Option (List Nat)} {r : List Nat} (hb : ∀ l, s = some l → ∀ y ∈ l, y < 256) (h : restT s = some r) : ∃ x, s = some (x.length :: x ++ r) ∧ x.length < 256 ∧ ansT s = x := by
  unfold restT at h
  cases hg : gT s with
  | none => rw [hg] at h; cases h
  | some p =>
    obtain ⟨x, r'⟩ := p
    have hg0 := hg
    rw [hg] at h
    cases h
    unfold gT at hg
    cases hn : gN s 1 with
    | none => rw [hn] at hg; cases hg
    | some q =>
      obtain ⟨y, t⟩ := q
      rw [hn] at hg
      simp only [Option.bind_some] at hg
      obtain ⟨e1, e2⟩ := takeI_some hg
      obtain ⟨e3, e4⟩ := gN_some (n := 1) hn
      obtain ⟨c, rfl⟩ := List.length_eq_one_iff.1 e4
      simp only [Option.some.injEq] at e1
      subst e1
      have hc := hb _ e3 c (by simp)
      have e5 : numN [c] = c := by simp [numN]
      rw [e5] at e2
      have e6 : x.length = c := by omega
      subst e6
      exact ⟨x, by simpa using e3, hc, by unfold ansT; rw [hg0]; rfl⟩
theorem back_w {v n : Nat} {r : List Nat} (h1 : 1 ≤ n) (h2 : n ≤ 6) (h3 : v < 256 ^ n) : ansN (some (wideN v n ++ r)) (n : Int) = v ∧ restN (some (wideN v n ++ r)) (n : Int) = some r := by
  have e := take_app (wideN v n) r
  rw [wideN_len] at e
  have e : gN (some (wideN v n ++ r)) (n : Int) = some (wideN v n, r) := by
    unfold gN
    rw [if_pos ⟨by omega, by omega⟩, e]
  exact ⟨by unfold ansN; rw [e]; exact numN_wide n v h3, by unfold restN; rw [e]; rfl⟩
theorem back_1 {v : Nat} {r : List Nat} : ansN (some (v :: r)) 1 = v ∧ restN (some (v :: r)) 1 = some r := by
  have e := take_app [v] r
  have e : gN (some (v :: r)) 1 = some ([v], r) := by
    unfold gN
    rw [if_pos ⟨by omega, by omega⟩]
    exact e
  exact ⟨by unfold ansN; rw [e]; simp [numN], by unfold restN; rw [e]; rfl⟩
theorem back_raw {b r : List Nat} {n : Nat} (h : b.length = n) : ansR (some (b ++ r)) (n : Int) = b ∧ restR (some (b ++ r)) (n : Int) = some r := by
  subst h
  exact back_r
theorem back_text {b r : List Nat} (h : b.length < 256) : ansT (some (b.length :: (b ++ r))) = b ∧ restT (some (b.length :: (b ++ r))) = some r := by
  have := back_t (b := b) (x := b.length :: b) (r := r) (by unfold putT; rw [if_pos (by omega)])
  simpa using this

/-! A packet's kind and body, read. -/

def rdSm (m : List Nat) : Sm := ⟨(numN (m.take 2) : Nat), numN ((m.drop 2).take 4), (m.drop 6).take 32⟩
def rdSums (c : Nat) (m : List Nat) : List Sm := (List.range c).map fun k => rdSm (m.drop (38 * k))
def zPk : Pk := ⟨List.replicate 8 0, 0, 0, 0, 0, 0, zFil, [], 0, []⟩
def rdMain (set : List Nat) (s : Option (List Nat)) : Option Pk :=
  if restN (restN (restN s 2) 1) 2 = some [] then some { zPk with set := set, kind := 1, slice := (ansN s 2 : Nat), files := (ansN (restN s 2) 1 : Nat), slices := (ansN (restN (restN s 2) 1) 2 : Nat) } else none
def rdFile (set : List Nat) (s : Option (List Nat)) : Option Pk :=
  if restN (restR (restN (restT (restN s 1)) 4) 32) 2 = some [] then
    some { zPk with set := set, kind := 2, index := (ansN s 1 : Nat), file := ⟨ansT (restN s 1), (ansN (restT (restN s 1)) 4 : Nat), ansR (restN (restT (restN s 1)) 4) 32, (ansN (restR (restN (restT (restN s 1)) 4) 32) 2 : Nat)⟩ } else none
def rdSumsP (set : List Nat) (s : Option (List Nat)) : Option Pk :=
  match restN (restN s 1) 2 with
  | some m => if m.length = 38 * ansN (restN s 1) 2 then some { zPk with set := set, kind := 3, index := (ansN s 1 : Nat), sums := rdSums (ansN (restN s 1) 2) m } else none
  | none => none
def rdSym (set : List Nat) (s : Option (List Nat)) : Option Pk :=
  match restN s 4 with
  | some m => if 1 ≤ m.length ∧ m.length ≤ 256 then some { zPk with set := set, kind := 4, id := ansN s 4, data := m } else none
  | none => none
def rdN (set l : List Nat) : Option Pk :=
  if ansN (some l) 1 = 1 then rdMain set (restN (some l) 1) else if ansN (some l) 1 = 2 then rdFile set (restN (some l) 1) else if ansN (some l) 1 = 3 then rdSumsP set (restN (some l) 1) else if ansN (some l) 1 = 4 then rdSym set (restN (some l) 1) else none

theorem i64R_small (n : Nat) (h : n < 5) : i64R (n : Int) := ⟨by omega, by omega⟩
theorem num_lt (x : List Nat) (hb : ∀ y ∈ x, y < 256) {n : Nat} (h : x.length = n) : numN x < 256 ^ n := by subst h; exact numN_lt x hb
theorem zFil_ok : FilOk zFil := ⟨by simp [zFil, IsByte], i64R_small 0 (by decide), i64R_small 0 (by decide), by simp [zFil], by intro y hy; simp [zFil] at hy; omega, by simp [zFil]⟩
theorem u64N_nat (n : Nat) (h : n < 18446744073709551616) : u64N (n : Int) = n := by unfold u64N; omega
theorem u8N_nat (n : Nat) (h : n < 256) : u8N (n : Int) = n := by unfold u8N; omega
theorem sm_split {m : List Nat} (h : 38 ≤ m.length) (hb : ∀ y ∈ m, y < 256) : SmOk (rdSm m) ∧ (0 ≤ (rdSm m).n ∧ (rdSm m).n < 65536) ∧ sumN (rdSm m) = m.take 38 := by
  have h1 : (m.take 2).length = 2 := by rw [List.length_take]; omega
  have h2 : ((m.drop 2).take 4).length = 4 := by rw [List.length_take, List.length_drop]; omega
  have h3 : ((m.drop 6).take 32).length = 32 := by rw [List.length_take, List.length_drop]; omega
  have b1 : ∀ y ∈ m.take 2, y < 256 := fun y hy => hb y (List.mem_of_mem_take hy)
  have b2 : ∀ y ∈ (m.drop 2).take 4, y < 256 := fun y hy => hb y (List.mem_of_mem_drop (List.mem_of_mem_take hy))
  have b3 : ∀ y ∈ (m.drop 6).take 32, y < 256 := fun y hy => hb y (List.mem_of_mem_drop (List.mem_of_mem_take hy))
  have n1 := num_lt _ b1 h1
  have n2 := num_lt _ b2 h2
  refine ⟨⟨?_, n2, h3, b3⟩, ⟨?_, ?_⟩, ?_⟩
  · show i64R ((numN (m.take 2) : Nat) : Int)
    exact ⟨by omega, by omega⟩
  · show (0 : Int) ≤ ((numN (m.take 2) : Nat) : Int)
    omega
  · show ((numN (m.take 2) : Nat) : Int) < 65536
    omega
  · unfold sumN rdSm
    simp only
    rw [u64N_nat _ (by omega), wide_num 2 _ h1 b1, wide_num 4 _ h2 b2]
    have e1 : m.drop 2 = (m.drop 2).take 4 ++ m.drop 6 := by
      have := (List.take_append_drop 4 (m.drop 2)).symm
      rwa [List.drop_drop] at this
    have e2 : m.take 38 = m.take 2 ++ (m.drop 2).take 36 := by
      rw [show 38 = 2 + 36 by rfl, List.take_add]
    have e3 : (m.drop 2).take 36 = (m.drop 2).take 4 ++ (m.drop 6).take 32 := by
      rw [show 36 = 4 + 32 by rfl, List.take_add, List.drop_drop]
    rw [e2, e3, List.append_assoc]
theorem rdSums_flat : ∀ (c : Nat) (m : List Nat), 38 * c ≤ m.length → (∀ y ∈ m, y < 256) → ((rdSums c m).map sumN).flatten = m.take (38 * c) ∧ ∀ x ∈ rdSums c m, SmOk x ∧ 0 ≤ x.n ∧ x.n < 65536
  | 0, m, _, _ => by simp [rdSums]
  | c + 1, m, h, hb => by
    have hd : ∀ y ∈ m.drop 38, y < 256 := fun y hy => hb y (List.mem_of_mem_drop hy)
    obtain ⟨i1, i2⟩ := rdSums_flat c (m.drop 38) (by rw [List.length_drop]; omega) hd
    obtain ⟨s1, s2, s3⟩ := sm_split (m := m) (by omega) hb
    have e : rdSums (c + 1) m = rdSm m :: rdSums c (m.drop 38) := by
      unfold rdSums
      rw [List.range_succ_eq_map, List.map_cons, List.map_map]
      congr 1
      apply List.map_congr_left
      intro k _
      simp only [Function.comp, List.drop_drop]
      congr 2
      omega
    rw [e]
    constructor
    · rw [List.map_cons, List.flatten_cons, i1, s3, show 38 * (c + 1) = 38 + 38 * c by omega, List.take_add]
    · intro x hx
      rcases List.mem_cons.1 hx with rfl | hx
      · exact ⟨s1, s2⟩
      · exact i2 x hx
theorem rdSums_len (c : Nat) (m : List Nat) : (rdSums c m).length = c := by simp [rdSums]
theorem rdSums_get {c k : Nat} (m : List Nat) (h : k < c) : (rdSums c m)[k]'(by rw [rdSums_len]; exact h) = rdSm (m.drop (38 * k)) := by simp [rdSums]

/-- What is read is a packet, and just that. -/
theorem rd_sound {set l : List Nat} {p : Pk} (h8 : set.length = 8) (hsb : IsByte set) (hl : IsByte l) (h : rdN set l = some p) : p.set = set ∧ PkIn p ∧ pkOk p ∧ kbN p.kind (pkBody p) = l := by
  have hz : zNone zPk := ⟨rfl, rfl, rfl⟩
  unfold rdN at h
  have hk : ∀ s, restN (some l) 1 = some s → ∃ k, l = k :: s ∧ ansN (some l) 1 = k := fun s hs => by
    obtain ⟨x, e1, e2, e3⟩ := restN_some (n := 1) hs
    obtain ⟨k, rfl⟩ := List.length_eq_one_iff.1 e2
    exact ⟨k, by simpa using e1, e3.trans (by simp [numN])⟩
  split at h
  · rename_i k1
    unfold rdMain at h
    split at h
    · rename_i hd
      cases h
      obtain ⟨x3, e5, e6, a3⟩ := restN_some (n := 2) hd
      obtain ⟨x2, e3, e4, a2⟩ := restN_some (n := 1) e5
      obtain ⟨x1, e1, e2, a1⟩ := restN_some (n := 2) e3
      obtain ⟨k, rfl, hk1⟩ := hk _ e1
      rw [k1] at hk1
      subst hk1
      have b1 : ∀ y ∈ x1, y < 256 := fun y hy => hl y (by simp [hy])
      have b2 : ∀ y ∈ x2, y < 256 := fun y hy => hl y (by simp [hy])
      have b3 : ∀ y ∈ x3, y < 256 := fun y hy => hl y (by simp [hy])
      have n1 := num_lt _ b1 e2
      have n2 := num_lt _ b2 e4
      have n3 := num_lt _ b3 e6
      have w1 := wide_num 2 x1 e2 b1
      have w3 := wide_num 2 x3 e6 b3
      obtain ⟨y2, rfl⟩ := List.length_eq_one_iff.1 e4
      have z2 : numN [y2] = y2 := by simp [numN]
      have a1 : ansN (restN (some (1 :: (x1 ++ ([y2] ++ (x3 ++ []))))) 1) 2 = numN x1 := a1
      have a2 : ansN (restN (restN (some (1 :: (x1 ++ ([y2] ++ (x3 ++ []))))) 1) 2) 1 = numN [y2] := a2
      have a3 : ansN (restN (restN (restN (some (1 :: (x1 ++ ([y2] ++ (x3 ++ []))))) 1) 2) 1) 2 = numN x3 := a3
      simp only [a1, a2, a3]
      refine ⟨trivial, ⟨h8, hsb, i64R_small 1 (by decide), ⟨by simp only; omega, by simp only; omega⟩, ⟨by simp only; omega, by simp only; omega⟩, ⟨by simp only; omega, by simp only; omega⟩, i64R_small 0 (by decide), zFil_ok, by simp [zPk], by simp [zPk], by simp [zPk, IsByte]⟩, .inl ⟨rfl, ⟨by simp only; omega, by simp only; omega⟩, ⟨by simp only; omega, by simp only; omega⟩, ⟨by simp only; omega, by simp only; omega⟩, rfl, rfl, rfl, rfl, rfl⟩, ?_⟩
      unfold pkBody
      rw [if_pos rfl]
      unfold mainN kbN
      simp only
      rw [u64N_nat _ (by omega), u64N_nat _ (by omega), w1, w3, u8N_nat _ (by omega), z2]
      simp [u8N]
    · cases h
  · split at h
    · rename_i k0 k1
      unfold rdFile at h
      split at h
      · rename_i hd
        cases h
        obtain ⟨x5, e9, e10, a5⟩ := restN_some (n := 2) hd
        obtain ⟨x4, e7, e8, a4⟩ := restR_some (n := 32) e9
        obtain ⟨x3, e5, e6, a3⟩ := restN_some (n := 4) e7
        have hbs : ∀ t, restN (restN (some l) 1) 1 = some t → ∀ y ∈ t, y < 256 := fun t ht y hy => by
          obtain ⟨u, f1, _, _⟩ := restN_some (n := 1) ht
          obtain ⟨v, f2, _, _⟩ := restN_some (n := 1) f1
          cases f2
          exact hl y (by simp [hy])
        obtain ⟨x2, e3, e4, a2⟩ := restT_some hbs e5
        obtain ⟨x1, e1, e2, a1⟩ := restN_some (n := 1) e3
        obtain ⟨k, rfl, hk1⟩ := hk _ e1
        rw [k1] at hk1
        subst hk1
        have b1 : ∀ y ∈ x1, y < 256 := fun y hy => hl y (by simp [hy])
        have b2 : ∀ y ∈ x2, y < 256 := fun y hy => hl y (by simp [hy])
        have b3 : ∀ y ∈ x3, y < 256 := fun y hy => hl y (by simp [hy])
        have b4 : ∀ y ∈ x4, y < 256 := fun y hy => hl y (by simp [hy])
        have b5 : ∀ y ∈ x5, y < 256 := fun y hy => hl y (by simp [hy])
        have n1 := num_lt _ b1 e2
        have n3 := num_lt _ b3 e6
        have n5 := num_lt _ b5 e10
        have w3 := wide_num 4 x3 e6 b3
        have w5 := wide_num 2 x5 e10 b5
        obtain ⟨y1, rfl⟩ := List.length_eq_one_iff.1 e2
        have z1 : numN [y1] = y1 := by simp [numN]
        generalize hL : (2 :: ([y1] ++ (x2.length :: x2 ++ (x3 ++ (x4 ++ (x5 ++ [])))))) = L at *
        have a1 : ansN (restN (some L) 1) 1 = numN [y1] := a1
        have a3 : ansN (restT (restN (restN (some L) 1) 1)) 4 = numN x3 := a3
        have a4 : ansR (restN (restT (restN (restN (some L) 1) 1)) 4) 32 = x4 := a4
        have a5 : ansN (restR (restN (restT (restN (restN (some L) 1) 1)) 4) 32) 2 = numN x5 := a5
        simp only [a1, a2, a3, a4, a5]
        refine ⟨trivial, ⟨h8, hsb, i64R_small 2 (by decide), i64R_small 0 (by decide), i64R_small 0 (by decide), i64R_small 0 (by decide), ⟨by simp only; omega, by simp only; omega⟩, ⟨b2, ⟨by simp only; omega, by simp only; omega⟩, ⟨by simp only; omega, by simp only; omega⟩, e8, b4, by simp only; omega⟩, by simp [zPk], by simp [zPk], by simp [zPk, IsByte]⟩, .inr (.inl ⟨rfl, hz, ⟨by simp only; omega, by simp only; omega⟩, e4, ⟨by simp only; omega, by simp only; omega⟩, ⟨by simp only; omega, by simp only; omega⟩, rfl, rfl, rfl⟩), ?_⟩
        unfold pkBody
        rw [if_neg (by simp), if_pos rfl]
        unfold fileN kbN
        simp only
        rw [u64N_nat _ (by omega), u64N_nat _ (by omega), w3, w5, u8N_nat _ (by omega), u8N_nat _ (by omega), z1, ← hL]
        simp [u8N]
      · cases h
    · split at h
      · rename_i k00 k0 k1
        unfold rdSumsP at h
        split at h
        · rename_i m hm
          split at h
          · rename_i hlen
            cases h
            obtain ⟨x2, e3, e4, a2⟩ := restN_some (n := 2) hm
            obtain ⟨x1, e1, e2, a1⟩ := restN_some (n := 1) e3
            obtain ⟨k, rfl, hk1⟩ := hk _ e1
            rw [k1] at hk1
            subst hk1
            have b1 : ∀ y ∈ x1, y < 256 := fun y hy => hl y (by simp [hy])
            have b2 : ∀ y ∈ x2, y < 256 := fun y hy => hl y (by simp [hy])
            have bm : ∀ y ∈ m, y < 256 := fun y hy => hl y (by simp [hy])
            have n1 := num_lt _ b1 e2
            have n2 := num_lt _ b2 e4
            have w2 := wide_num 2 x2 e4 b2
            obtain ⟨y1, rfl⟩ := List.length_eq_one_iff.1 e2
            have z1 : numN [y1] = y1 := by simp [numN]
            generalize hL : (3 :: ([y1] ++ (x2 ++ m))) = L at *
            have a1 : ansN (restN (some L) 1) 1 = numN [y1] := a1
            have a2 : ansN (restN (restN (some L) 1) 1) 2 = numN x2 := a2
            rw [a2] at hlen
            simp only [a1, a2]
            obtain ⟨f1, f2⟩ := rdSums_flat (numN x2) m (by omega) bm
            refine ⟨trivial, ⟨h8, hsb, i64R_small 3 (by decide), i64R_small 0 (by decide), i64R_small 0 (by decide), i64R_small 0 (by decide), ⟨by simp only; omega, by simp only; omega⟩, zFil_ok, fun x hx => (f2 x hx).1, by simp [zPk], by simp [zPk, IsByte]⟩, .inr (.inr (.inl ⟨rfl, hz, rfl, ⟨rfl, rfl⟩, ⟨by simp only; omega, by simp only; omega⟩, by simp only [rdSums_len]; omega, fun x hx => (f2 x hx).2⟩)), ?_⟩
            unfold pkBody
            rw [if_neg (by simp), if_neg (by simp), if_pos rfl]
            unfold sumsN kbN
            simp only
            rw [f1, rdSums_len, w2, u8N_nat _ (by omega), z1, ← hL, ← hlen, List.take_length]
            simp [u8N]
          · cases h
        · cases h
      · split at h
        · rename_i k000 k00 k0 k1
          unfold rdSym at h
          split at h
          · rename_i m hm
            split at h
            · rename_i hlen
              cases h
              obtain ⟨x1, e1, e2, a1⟩ := restN_some (n := 4) hm
              obtain ⟨k, rfl, hk1⟩ := hk _ e1
              rw [k1] at hk1
              subst hk1
              have b1 : ∀ y ∈ x1, y < 256 := fun y hy => hl y (by simp [hy])
              have bm : ∀ y ∈ m, y < 256 := fun y hy => hl y (by simp [hy])
              have n1 := num_lt _ b1 e2
              have w1 := wide_num 4 x1 e2 b1
              have a1 : ansN (restN (some (4 :: (x1 ++ m))) 1) 4 = numN x1 := a1
              simp only [a1]
              refine ⟨trivial, ⟨h8, hsb, i64R_small 4 (by decide), i64R_small 0 (by decide), i64R_small 0 (by decide), i64R_small 0 (by decide), i64R_small 0 (by decide), zFil_ok, by simp [zPk], by simp only; omega, bm⟩, .inr (.inr (.inr ⟨rfl, hz, rfl, rfl, rfl, hlen.1, hlen.2⟩)), ?_⟩
              unfold pkBody
              rw [if_neg (by simp), if_neg (by simp), if_neg (by simp)]
              unfold symbolN kbN
              simp only
              rw [w1]
              simp [u8N]
            · cases h
          · cases h
        · cases h
/-- A formed packet is read. -/
theorem rd_some {p : Pk} (hi : PkIn p) (ho : pkOk p) : ∃ q, rdN p.set (kbN p.kind (pkBody p)) = some q := by
  have hk := kind_of ho
  have ek : u8N p.kind = p.kind.toNat := by unfold u8N; omega
  unfold rdN kbN
  rw [List.singleton_append, back_1.1, back_1.2, ek]
  rcases ho with o | o | o | o
  · have k1 := o.1
    rw [k1, if_pos (by decide)]
    unfold pkBody
    rw [if_pos k1]
    unfold mainN rdMain
    have o1 := o.2.1.2
    have o2 := o.2.2.2.1.2
    have w1 := u64N_of o.2.1.1 (by omega)
    have w2 := u8N_of o.2.2.1.1 o.2.2.1.2
    have w3 := u64N_of o.2.2.2.1.1 (by omega)
    have b1 := back_w (v := u64N p.slice) (n := 2) (r := u8N p.files :: (wideN (u64N p.slices) 2 ++ [])) (by omega) (by omega) (by omega)
    have b2 := back_w (v := u64N p.slices) (n := 2) (r := []) (by omega) (by omega) (by omega)
    have e : wideN (u64N p.slice) 2 ++ [u8N p.files] ++ wideN (u64N p.slices) 2 = wideN (u64N p.slice) 2 ++ (u8N p.files :: (wideN (u64N p.slices) 2 ++ [])) := by simp
    have c1 : restN (some (wideN (u64N p.slice) 2 ++ (u8N p.files :: (wideN (u64N p.slices) 2 ++ [])))) 2 = _ := b1.2
    have c2 : restN (some (wideN (u64N p.slices) 2 ++ [])) 2 = _ := b2.2
    rw [e, c1, back_1.2, c2, if_pos rfl]
    exact ⟨_, rfl⟩
  · have k1 := o.1
    rw [k1, if_neg (by decide), if_pos (by decide)]
    unfold pkBody
    rw [if_neg (by rw [k1]; decide), if_pos k1]
    unfold fileN rdFile
    obtain ⟨_, _, x4, x5, x6, x7, _⟩ := o
    have w1 := u64N_of x6.1 (by omega)
    have w2 := u64N_of x7.1 (by omega)
    have w3 := u8N_nat p.file.name.length x5
    have dl := hi.file.dgl
    have e : [u8N p.index, u8N p.file.name.length] ++ p.file.name ++ wideN (u64N p.file.size) 4 ++ p.file.dg ++ wideN (u64N p.file.first) 2 = u8N p.index :: (p.file.name.length :: (p.file.name ++ (wideN (u64N p.file.size) 4 ++ (p.file.dg ++ (wideN (u64N p.file.first) 2 ++ []))))) := by rw [w3]; simp
    rw [e, back_1.2, (back_text x5).2]
    have c1 : restN (some (wideN (u64N p.file.size) 4 ++ (p.file.dg ++ (wideN (u64N p.file.first) 2 ++ [])))) 4 = _ := (back_w (n := 4) (by omega) (by omega) (by omega)).2
    have c2 : restR (some (p.file.dg ++ (wideN (u64N p.file.first) 2 ++ []))) 32 = _ := (back_raw (n := 32) dl).2
    have c3 : restN (some (wideN (u64N p.file.first) 2 ++ [])) 2 = _ := (back_w (n := 2) (by omega) (by omega) (by omega)).2
    rw [c1, c2, c3, if_pos rfl]
    exact ⟨_, rfl⟩
  · have k1 := o.1
    rw [k1, if_neg (by decide), if_neg (by decide), if_pos (by decide)]
    unfold pkBody
    rw [if_neg (by rw [k1]; decide), if_neg (by rw [k1]; decide), if_pos k1]
    unfold sumsN rdSumsP
    obtain ⟨_, _, _, _, x7, x8, x9⟩ := o
    have e : [u8N p.index] ++ wideN p.sums.length 2 ++ (p.sums.map sumN).flatten = u8N p.index :: (wideN p.sums.length 2 ++ (p.sums.map sumN).flatten) := by simp
    have b := back_w (v := p.sums.length) (n := 2) (r := (p.sums.map sumN).flatten) (by omega) (by omega) (by omega)
    have c1 : restN (some (wideN p.sums.length 2 ++ (p.sums.map sumN).flatten)) 2 = _ := b.2
    have c2 : ansN (some (wideN p.sums.length 2 ++ (p.sums.map sumN).flatten)) 2 = _ := b.1
    rw [e, back_1.2, c1, c2]
    simp only
    rw [if_pos (sums_len hi.sums)]
    exact ⟨_, rfl⟩
  · have k1 := o.1
    rw [k1, if_neg (by decide), if_neg (by decide), if_neg (by decide), if_pos (by decide)]
    unfold pkBody
    rw [if_neg (by rw [k1]; decide), if_neg (by rw [k1]; decide), if_neg (by rw [k1]; decide)]
    unfold symbolN rdSym
    obtain ⟨_, _, _, _, _, x7, x8⟩ := o
    have c1 : restN (some (wideN p.id 4 ++ p.data)) 4 = _ := (back_w (n := 4) (by omega) (by omega) (by have := hi.id; omega)).2
    rw [c1]
    simp only
    rw [if_pos ⟨x7, x8⟩]
    exact ⟨_, rfl⟩

/-! Decode. -/

inductive Dec
  | form
  | sum
  | ok (p : Pk) (n : Nat)
/-- How many bytes the packet that begins says it has; 0: none does, or they aren't there. -/
def saidN (l : List Nat) : Nat := numN ((l.drop 4).take 4)
def claimN (l : List Nat) : Nat := if 48 < l.length ∧ l.take 4 = [71, 89, 83, 49] ∧ 48 < saidN l ∧ saidN l ≤ l.length then saidN l else 0
def setN (l : List Nat) : List Nat := (l.drop 8).take 8
def sumD (l : List Nat) : List Nat := (l.drop 16).take 32
def kbD (l : List Nat) (n : Nat) : List Nat := (l.drop 48).take (n - 48)
def decN (l : List Nat) : Dec :=
  if claimN l = 0 then .form else
  match rdN (setN l) (kbD l (claimN l)) with
  | none => .form
  | some p => if sumD l = dgN (setN l ++ kbD l (claimN l)) then .ok p (claimN l) else .sum
theorem claimN_le {l : List Nat} (h : claimN l ≠ 0) : 48 < claimN l ∧ claimN l ≤ l.length ∧ l.take 4 = [71, 89, 83, 49] ∧ claimN l = saidN l := by
  unfold claimN at h ⊢
  split
  · rename_i hc
    exact ⟨hc.2.2.1, hc.2.2.2, hc.2.1, rfl⟩
  · rename_i hc
    rw [if_neg hc] at h
    exact absurd rfl h
theorem cut_up {l : List Nat} {n : Nat} (h : 48 ≤ n) (h2 : n ≤ l.length) : l = l.take 4 ++ ((l.drop 4).take 4 ++ (setN l ++ (sumD l ++ (kbD l n ++ l.drop n)))) := by
  unfold setN sumD kbD
  have e1 : (l.drop 48).take (n - 48) ++ l.drop n = l.drop 48 := by
    have := List.take_append_drop (n - 48) (l.drop 48)
    rwa [List.drop_drop, show 48 + (n - 48) = n by omega] at this
  have e2 : (l.drop 16).take 32 ++ l.drop 48 = l.drop 16 := by
    have := List.take_append_drop 32 (l.drop 16)
    rwa [List.drop_drop] at this
  have e3 : (l.drop 8).take 8 ++ l.drop 16 = l.drop 8 := by
    have := List.take_append_drop 8 (l.drop 8)
    rwa [List.drop_drop] at this
  have e4 : (l.drop 4).take 4 ++ l.drop 8 = l.drop 4 := by
    have := List.take_append_drop 4 (l.drop 4)
    rwa [List.drop_drop] at this
  rw [e1, e2, e3, e4, List.take_append_drop]
theorem dec_ok {l : List Nat} {p : Pk} {n : Nat} (hb : IsByte l) (h : decN l = .ok p n) : Begins l p n := by
  unfold decN at h
  split at h
  · cases h
  · rename_i hc
    split at h
    · cases h
    · rename_i q hq
      split at h
      · rename_i hs
        cases h
        obtain ⟨h1, h2, h3, h4⟩ := claimN_le hc
        obtain ⟨n, hn⟩ : ∃ n, n = claimN l := ⟨_, rfl⟩
        rw [← hn] at h1 h2 h4 hq hs ⊢
        have l8 : (setN l).length = 8 := by unfold setN; rw [List.length_take, List.length_drop]; omega
        have lk : (kbD l n).length = n - 48 := by unfold kbD; rw [List.length_take, List.length_drop]; omega
        have l4 : ((l.drop 4).take 4).length = 4 := by rw [List.length_take, List.length_drop]; omega
        have b8 : IsByte (setN l) := fun y hy => hb y (List.mem_of_mem_drop (List.mem_of_mem_take hy))
        have bk : IsByte (kbD l n) := fun y hy => hb y (List.mem_of_mem_drop (List.mem_of_mem_take hy))
        have b4 : ∀ y ∈ (l.drop 4).take 4, y < 256 := fun y hy => hb y (List.mem_of_mem_drop (List.mem_of_mem_take hy))
        obtain ⟨s1, s2, s3, s4⟩ := rd_sound l8 b8 bk hq
        have e : l = pkBytes p ++ l.drop n := by
          unfold pkBytes bytesN
          have hw : wideN n 4 = (l.drop 4).take 4 := by
            rw [h4]
            unfold saidN
            exact wide_num 4 _ l4 b4
          rw [s4, s1, lk, show 48 + (n - 48) = n by omega, ← hs, ← h3, hw]
          have := cut_up (l := l) (n := n) (by omega) (by omega)
          simp only [List.append_assoc]
          exact this
        refine ⟨s2, s3, ?_, _, e⟩
        have := congrArg List.length e
        rw [List.length_append, List.length_drop] at this
        omega
      · cases h
theorem dec_begins {l : List Nat} {p : Pk} {n : Nat} (hb : IsByte l) (h : Begins l p n) : decN l = .ok p n := by
  have h0 := h
  obtain ⟨hi, ho, hn, r, e⟩ := h
  have hlen := body_len hi ho
  have hle := begins_le h0
  have e2 : l = [71, 89, 83, 49] ++ (wideN (48 + (kbN p.kind (pkBody p)).length) 4 ++ (p.set ++ (dgN (p.set ++ kbN p.kind (pkBody p)) ++ (kbN p.kind (pkBody p) ++ r)))) := by
    rw [e]
    unfold pkBytes bytesN
    simp only [List.append_assoc]
  have hk := kb_len p.kind (pkBody p)
  have hnn : n = 48 + (kbN p.kind (pkBody p)).length := by rw [hn]; unfold pkBytes; rw [bytes_len hi.set8]; omega
  obtain ⟨K, hK⟩ : ∃ K, K = kbN p.kind (pkBody p) := ⟨_, rfl⟩
  obtain ⟨q, hq⟩ := rd_some hi ho
  have h8 := hi.set8
  rw [← hK] at e2 hnn hq hk
  have hD := dgN_len (p.set ++ K)
  obtain ⟨D, hDD⟩ : ∃ D, D = dgN (p.set ++ K) := ⟨_, rfl⟩
  rw [← hDD] at e2 hD
  have hW := wideN_len 4 (48 + K.length)
  have hWn := numN_wide 4 (48 + K.length) (by omega)
  obtain ⟨W, hWW⟩ : ∃ W, W = wideN (48 + K.length) 4 := ⟨_, rfl⟩
  rw [← hWW] at e2 hW hWn
  have d4 : l.drop 4 = W ++ (p.set ++ (D ++ (K ++ r))) := by rw [e2]; rfl
  have d8 : l.drop 8 = p.set ++ (D ++ (K ++ r)) := by
    rw [show 8 = 4 + 4 by rfl, ← List.drop_drop, d4, List.drop_left' hW]
  have d16 : l.drop 16 = D ++ (K ++ r) := by
    rw [show 16 = 8 + 8 by rfl, ← List.drop_drop, d8, List.drop_left' h8]
  have d48 : l.drop 48 = K ++ r := by
    rw [show 48 = 16 + 32 by rfl, ← List.drop_drop, d16, List.drop_left' hD]
  have s1 : saidN l = n := by
    unfold saidN
    rw [d4, List.take_left' hW, hWn, hnn]
  have s2 : setN l = p.set := by unfold setN; rw [d8, List.take_left' h8]
  have s3 : sumD l = D := by unfold sumD; rw [d16, List.take_left' hD]
  have s4 : kbD l n = K := by unfold kbD; rw [d48, List.take_left' (by omega)]
  have hc : claimN l = n := by
    unfold claimN
    rw [s1, if_pos ⟨by omega, by rw [e2]; rfl, by omega, hle.1⟩]
  have hd : decN l = .ok q n := by
    unfold decN
    rw [hc, if_neg (by omega), s2, s3, s4, hq]
    simp only
    rw [if_pos hDD]
  have hbq := dec_ok hb hd
  rw [hd, (begins_one hbq h0).1]
end Go.Proofs.YtfgaohilpbocbaaGreatDoor
end
