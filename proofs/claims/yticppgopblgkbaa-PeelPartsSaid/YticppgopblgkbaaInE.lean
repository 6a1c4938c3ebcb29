/-
  Of each unknown the equations that it is in.
-/
import Derived.Test.YticppgopblgkbaaKw
import Derived.Test.YticppgopblgkbaaPlb
namespace Go.Proofs.Yticppgopblgkbaa
open Go.ChangeShapes Go.WideShapes Go.ChangeAt Go.RowKit Go.Joins
set_option linter.unusedVariables false

theorem infoIs : (Try.prog.info? 27).map (fun i => (i.zero, i.size, i.bytes)) = some (some (.slice none 0 0), 1, 24) := by kernel_rfl
def nilS (_ : Nat) : Value := .slice none 0 0
set_option maxRecDepth 100000 in
theorem make_slices (n : Nat) (hn : n ≤ 1000000) (w : World) : (Instr.makeSlice 39 (.int .i64 (n : Int)) (.int .i64 (n : Int))).run Try.prog w = .ok (.slice (some ⟨w.heap.size, 0, none⟩) n n) (w.alloc (.cells (rowArr n nilS) 27)) := by
  have h := run_make_row' (P := Try.prog) 39 27 (.slice none 0 0) 24 Try.underlying39 infoIs rfl .i64 .i64 n (by omega) (by omega) w
  rw [h]
  congr 3
  apply Array.ext
  · simp [madeCells, rowArr]
  · intro i h1 h2
    simp [madeCells, rowArr, nilS, Nat.mod_one]

/-- Rows that are made by append, side by side, their slices in block g. -/
structure InAt (B : Nat) (w : World) (g n : Nat) (vs : Nat → Value) (L : Nat → List Nat) : Prop where
  row : Row w g 27 n n vs
  own : ∀ x, x < n → OwnN B w (vs x) (L x)
  apart : ∀ x y, x < n → y < n → x ≠ y → ∀ b, (vs x).ownBlock = some b → (vs y).ownBlock ≠ some b
  hi : B ≤ g
theorem own_typed {B : Nat} {w : World} {v : Value} {l : List Nat} {b : Nat} (h : OwnN B w v l) (hb : v.ownBlock = some b) : ∃ cs, w.heap[b]? = some (.cells cs 3 (0, 0)) := by
  rcases h.2 with ⟨rfl, _⟩ | ⟨g, cap, cur, rfl, _, hh, _⟩
  · simp [Value.ownBlock] at hb
  · have : g = b := by simpa [Value.ownBlock] using hb
    subst this
    exact ⟨cur, hh⟩
theorem own_hi {B : Nat} {w : World} {v : Value} {l : List Nat} {b : Nat} (h : OwnN B w v l) (hb : v.ownBlock = some b) : B ≤ b := by
  rcases h.2 with ⟨rfl, _⟩ | ⟨g, cap, cur, rfl, hB, _⟩
  · simp [Value.ownBlock] at hb
  · have : g = b := by simpa [Value.ownBlock] using hb
    omega
theorem InAt.ne {B : Nat} {w : World} {g n : Nat} {vs : Nat → Value} {L : Nat → List Nat} (h : InAt B w g n vs L) {x : Nat} (hx : x < n) : (vs x).ownBlock ≠ some g := fun e => by
  obtain ⟨cs, h1⟩ := own_typed (h.own x hx) e
  obtain ⟨cs', h2, _⟩ := h.row
  rw [h1] at h2
  injection h2 with h2
  injection h2 with _ h2 _
  exact absurd h2 (by decide)
theorem InAt.low {B : Nat} {w : World} {g n : Nat} {vs : Nat → Value} {L : Nat → List Nat} (h : InAt B w g n vs L) {x b : Nat} (hx : x < n) (hb : (vs x).ownBlock = some b) : b < w.heap.size := by
  obtain ⟨cs, h1⟩ := own_typed (h.own x hx) hb
  exact (Array.getElem?_eq_some_iff.1 h1).1
theorem InAt.keep {B : Nat} {w w' : World} {g n : Nat} {vs : Nat → Value} {L : Nat → List Nat} (h : InAt B w g n vs L) (k : Below w.heap.size w w') : InAt B w' g n vs L :=
  ⟨h.row.below k h.row.lt, fun x hx => (h.own x hx).below k, h.apart, h.hi⟩
theorem InAt.push {B : Nat} {w w' : World} {g n : Nat} {vs : Nat → Value} {L : Nat → List Nat} (h : InAt B w g n vs L) {x i : Nat} (hx : x < n) {v' : Value}
    (h1 : OwnN B w' v' (L x ++ [i])) (h2 : w.grownBy w' (vs x).ownBlock) (h5 : v'.ownBlock = (vs x).ownBlock ∨ v'.ownBlock = some w.heap.size) :
    InAt B (w'.setCell ⟨g, x, none⟩ v') g n (fun y => if y = x then v' else vs y) (fun y => if y = x then L x ++ [i] else L y) := by
  have hg := h.row.lt
  have hgn := h.ne hx
  have hset : ∀ {v : Value} {l : List Nat}, v.ownBlock ≠ some g → OwnN B w' v l → OwnN B (w'.setCell ⟨g, x, none⟩ v') v l := fun {v l} hv ho => by
    refine World.ownsRow.kept (row := some g) ho ⟨rfl, rfl, rfl, by simp, fun j hj hne => Below.heap_setCell _ _ _ _ fun e => hne (by rw [e])⟩ ?_
    exact .inr fun e => hv e
  have hvg : v'.ownBlock ≠ some g := fun e => by
    rcases h5 with h5 | h5
    · exact hgn (h5.symm.trans e)
    · rw [h5] at e; injection e with e; omega
  refine ⟨?_, fun y hy => ?_, fun y z hy hz hyz b hb hb2 => ?_, h.hi⟩
  · obtain ⟨cs, r1, r2, r3⟩ := h.row
    have r4 : w'.heap[g]? = some (.cells cs 27 (0, 0)) := (h2.block g hg fun e => hgn e.symm).trans r1
    exact (show Row w' g 27 n n vs from ⟨cs, r4, r2, r3⟩).upd x hx v'
  · by_cases e : y = x
    · subst e
      simp only [if_true]
      exact hset hvg h1
    · simp only [if_neg e]
      refine hset (h.ne hy) ?_
      refine World.ownsRow.kept (h.own y hy) h2 ?_
      cases hv : (vs y).ownBlock with
      | none => exact .inl rfl
      | some c => exact .inr fun e2 => h.apart y x hy hx e c hv e2.symm
  · by_cases e1 : y = x
    · subst e1
      simp only [if_true] at hb
      simp only [if_neg (Ne.symm hyz)] at hb2
      rcases h5 with h5 | h5
      · exact h.apart y z hy hz hyz b (h5 ▸ hb) hb2
      · have := h.low hz hb2
        rw [h5] at hb
        injection hb with hb
        omega
    · simp only [if_neg e1] at hb
      by_cases e2 : z = x
      · subst e2
        simp only [if_true] at hb2
        rcases h5 with h5 | h5
        · exact h.apart y z hy hz hyz b hb (h5 ▸ hb2)
        · have := h.low hy hb
          rw [h5] at hb2
          injection hb2 with hb2
          omega
      · simp only [if_neg e2] at hb2
        exact h.apart y z hy hz hyz b hb hb2
theorem InAt.new (w : World) (n : Nat) : InAt w.heap.size (w.alloc (.cells (rowArr n nilS) 27)) w.heap.size n nilS (fun _ => []) :=
  ⟨Row.new_whole w _ _ _ _ _ rfl rfl, fun x hx => OwnN.nil _ _, fun x y _ _ _ b hb => by simp [nilS, Value.ownBlock] at hb, Nat.le_refl _⟩

/-- How often the equation e tells the unknown x, when k equations and j cells are done. -/
def cnt (es : Eqz) (k j e x : Nat) : Nat := if e < k then (pl (es.getD e [])).count x else if e = k then (pl ((es.getD k []).take j)).count x else 0
theorem cnt_start (es : Eqz) (e x : Nat) : cnt es 0 0 e x = 0 := by
  unfold cnt; split
  · omega
  · split <;> simp [pl]
theorem cnt_next {es : Eqz} {k j : Nat} (hk : k < es.length) (hj : j < es[k].length) {p : Nat} (hp : es[k][j].1.toNat = p) (e x : Nat) : cnt es k (j + 1) e x = cnt es k j e x + (if x = p ∧ e = k then 1 else 0) := by
  unfold cnt
  by_cases h1 : e < k
  · rw [if_pos h1, if_pos h1, if_neg (by omega)]
    rfl
  · rw [if_neg h1, if_neg h1]
    by_cases h2 : e = k
    · subst h2
      have hg : es.getD e [] = es[e] := by simp [List.getD, hk]
      rw [if_pos rfl, if_pos rfl, hg]
      unfold pl
      rw [List.take_succ_eq_append_getElem hj, List.map_append, List.count_append]
      congr 1
      simp only [List.map_cons, List.map_nil, hp]
      by_cases hx : x = p
      · subst hx; simp
      · rw [if_neg (by simp [hx]), List.count_eq_zero]
        simpa using hx
    · rw [if_neg h2, if_neg h2, if_neg (fun h => h2 h.2)]
theorem cnt_round {es : Eqz} {k : Nat} (hk : k < es.length) (e x : Nat) : cnt es (k + 1) 0 e x = cnt es k es[k].length e x := by
  unfold cnt
  have hg : es.getD k [] = es[k] := by simp [List.getD, hk]
  by_cases h1 : e < k
  · rw [if_pos (by omega), if_pos h1]
  · rw [if_neg h1]
    by_cases h2 : e = k
    · subst h2
      rw [if_pos (by omega), if_pos rfl, hg, List.take_length]
    · rw [if_neg (by omega), if_neg h2]
      split <;> simp [pl]
/-- What holds when k equations and j cells are done. -/
structure InTo (w0 w : World) (g n : Nat) (es : Eqz) (k j : Nat) : Prop where
  have_ : ∃ vs L, InAt w0.heap.size w g n vs L ∧ (∀ x e, x < n → (L x).count e = cnt es k j e x) ∧ ∀ x, x < n → (L x).length ≤ k * 1000 + j
  low : Below w0.heap.size w0 w
theorem InTo.keep {w0 w w' : World} {g n : Nat} {es : Eqz} {k j : Nat} (h : InTo w0 w g n es k j) (q : Below w.heap.size w w') : InTo w0 w' g n es k j := by
  obtain ⟨⟨vs, L, h1, h2, h3⟩, h4⟩ := h
  exact ⟨⟨vs, L, h1.keep q, h2, h3⟩, h4.trans (q.mono h4.size)⟩

set_option maxRecDepth 100000 in
set_option maxHeartbeats 4000000 in
theorem equationsOf_any (a : Option Addr) (cap : Nat) (es : Eqz) (n : Nat) (hn : n ≤ 1000) (w : World) (hs : Er w a cap es) (hm : es.length ≤ 1000) (hr : ∀ l ∈ es, ∀ c ∈ l, 0 ≤ c.1 ∧ c.1 < (n : Int)) (hl : ∀ l ∈ es, l.length ≤ 1000) :
    Calls Try.prog 11 #[.slice a es.length cap, .int .i64 (n : Int)] w fun e w' => ∃ g, e = .returned (.slice (some ⟨g, 0, none⟩) n n) ∧ InTo w w' g n es es.length 0 := by
  have HS := Lib.hid hs
  have hmk := make_slices n (by omega) w
  have HI0 : Hid (InTo w (w.alloc (.cells (rowArr n nilS) 27)) w.heap.size n es 0 0) :=
    ⟨⟨_, _, InAt.new w n, fun x e _ => by rw [cnt_start]; simp, fun x _ => by simp⟩, (Below.refl _ _).alloc (Nat.le_refl _) _⟩
  clear hs
  go_enter Try.func11, Try.ntmps11
  go_wp2_with fail
  obtain ⟨w0, hw0⟩ : ∃ w0, w0 = w.alloc (.cells (rowArr n nilS) 27) := ⟨_, rfl⟩
  obtain ⟨g, hg⟩ : ∃ g, g = w.heap.size := ⟨_, rfl⟩
  rw [← hg, ← hw0] at HI0 ⊢
  clear hg hw0 hmk
  go_loopw [14] (fun i wr => ∃ k : Nat, k ≤ es.length ∧ i = .int .i64 k ∧ Hid (InTo w wr g n es k 0)) (fun i _ => es.length - (intOf i).toNat)
  case atStart => exact ⟨0, by omega, rfl, HI0⟩
  case round =>
    obtain ⟨k, hk, rfl, HI⟩ := hrel
    clear HI0
    by_cases hlt : k < es.length
    · obtain ⟨b, off, rfl, hb, a', c', hc0, hcr⟩ := er_one HS.out hlt
      have hc := (HI.out.low.cell (p := ⟨b, off + k, none⟩) hb).trans hc0
      have hlk := hcr.lt
      have HC := Lib.hid hcr
      have hl1 := hl _ (List.getElem_mem hlt)
      have HR : Hid (∀ c ∈ es[k], 0 ≤ c.1 ∧ c.1 < (n : Int)) := hr _ (List.getElem_mem hlt)
      have HX : Hid (∀ j, (hj : j < es[k].length) → ∀ p, es[k][j].1.toNat = p → ∀ e x, cnt es k (j + 1) e x = cnt es k j e x + (if x = p ∧ e = k then 1 else 0)) := fun j hj p hp e x => cnt_next hlt hj hp e x
      have HX2 := Lib.hid (cnt_round hlt)
      clear hcr hc0
      generalize es[k] = x at *
      obtain ⟨W1, rfl⟩ : ∃ x, x = wr := ⟨_, rfl⟩
      have HJ0 : Hid (InTo w W1 g n es k 0) := HI
      have HB0 : Hid (Below W1.heap.size W1 W1) := Below.refl _ _
      go_wp2_with fail
      go_loopw [21] (fun i wr => ∃ j : Nat, j ≤ x.length ∧ i = .int .i64 j ∧ Hid (InTo w wr g n es k j) ∧ Hid (Below w.heap.size w wr)) (fun i _ => x.length - (intOf i).toNat)
      case atStart => exact ⟨0, by omega, rfl, HJ0, HI.out.low⟩
      case round =>
        obtain ⟨j, hj, rfl, HJ, HB⟩ := hrel
        clear HJ0 HB0
        by_cases hlj : j < x.length
        · obtain ⟨b', off', rfl, hb', hc'⟩ := (HC.out.below HB.out).some hlj
          obtain ⟨c0, c1⟩ := hc' j hlj
          obtain ⟨r1, r2⟩ := HR.out _ (List.getElem_mem hlj)
          obtain ⟨p, hp⟩ : ∃ p : Nat, x[j].1 = (p : Int) := ⟨x[j].1.toNat, by omega⟩
          have HX3 := Lib.hid (HX.out j hlj p (by omega))
          obtain ⟨y, hy⟩ : ∃ y : Nat, y = x[j].2 := ⟨_, rfl⟩
          rw [hp] at c0 r2
          rw [← hy] at c1
          have b0 : b' < wr.heap.size := World.block_lt_of_cell? wr _ c0
          have hpn : p < n := by omega
          have hpz : (p : Int) < (n : Int) := by omega
          have hkz : (k : Int) ≤ 1000 := by omega
          clear hc' hp hy r1
          obtain ⟨⟨vs, L, h1, h2, h3⟩, h4⟩ := HJ.out
          have hL := h3 p hpn
          obtain ⟨wd, hwd⟩ : ∃ wd, wd = (wr.alloc (.cells #[.int .i64 (p : Int), .int .u8 (y : Int)] 38)).drew := ⟨_, rfl⟩
          have HBD : Hid (Below wr.heap.size wr wd) := by subst hwd; exact ((Below.refl _ _).alloc (Nat.le_refl _) _).drew
          have k0' : wd.cell? ⟨wr.heap.size, 0, none⟩ = some (.int .i64 (p : Int)) := by subst hwd; show (wr.alloc _).cell? _ = _; simp
          have hsz : wr.heap.size < wd.heap.size := by subst hwd; show wr.heap.size < (wr.alloc _).heap.size; simp
          have I1 := Lib.hid (h1.keep HBD.out)
          have hvb : (vs p).ownBlock ≠ some wr.heap.size := fun e => by have := h1.low hpn e; omega
          have hgl := h1.row.lt
          have hne := h1.ne hpn
          have k0 : ∀ q : KeepW wd (fun b => (vs p).ownBlock = some b), q.v.cell? ⟨wr.heap.size, 0, none⟩ = some (.int .i64 (p : Int)) := fun q => (q.cell hsz hvb).trans k0'
          have k1 : ∀ q : KeepW wd (fun b => (vs p).ownBlock = some b), q.v.cell? ⟨g, p, none⟩ = some (vs p) := fun q => (q.cell (Nat.lt_of_lt_of_le hgl HBD.out.size) hne).trans (I1.out.row.cell p hpn)
          have H2 := Lib.hid h2
          have H3 := Lib.hid h3
          have HW := Lib.hid (h4.trans (HBD.out.mono h4.size))
          obtain ⟨v, hv⟩ : ∃ v, v = vs p := ⟨_, rfl⟩
          rw [← hv] at k0 k1 hvb
          clear h1 h2 h3 h4 HJ hne
          go_wp2_with fail
          refine growK_begin 12 (fun w' => ∃ p : KeepW wd (fun b => v.ownBlock = some b), w' = p.v) (by kernel_rfl) ?_
          rw [← hwd]
          have HV := Lib.hid hv
          clear hwd hv
          refine growK_take (by kernel_rfl) [0, 1, 2, 3, 4, 5, 6, 7, 8] 4 _ _ (by kernel_rfl) _ (keep_class (Fr.refl _ _)) ?_
          simp only [opsAt, List.getElem?_toArray, List.getElem?_cons_succ, List.getElem?_cons_zero]
          repeat (first | go_big_quiet_step (fail) | quiet_step (fail))
          refine wpQuiet_nil ?_
          have HB5 : Hid (Below wd.heap.size wd (wd.alloc (.cells #[.int .i64 (k : Int)] 3))) := (Below.refl _ _).alloc (Nat.le_refl _) _
          have I2 := Lib.hid (I1.out.keep HB5.out)
          refine growK_one 9 (by kernel_rfl) (fun K hK => ?_)
          simp only [stepOf, List.getElem?_toArray, List.getElem?_cons_succ, List.getElem?_cons_zero]
          go_simp
          refine hK.out _ _ (keep_class (Fr.of_below HB5.out)) ?_
          clear hK K
          refine growK_one 10 (by kernel_rfl) (fun K hK => ?_)
          simp only [stepOf, List.getElem?_toArray, List.getElem?_cons_succ, List.getElem?_cons_zero]
          rw [if_pos (by rfl)]
          refine wp_push_n _ (.tmp 32) (.tmp 34) rfl w.heap.size v (L p) rfl (by rw [HV.out]; exact I2.out.own p hpn) wd.heap.size rfl k (by simp) (Nat.le_trans HW.out.size HB5.out.size) (by omega) ?_
          intro v' w5 o5 g5 e5
          rw [HV.out] at g5 e5
          have I3 := Lib.hid (I2.out.push hpn o5.out g5.out e5.out)
          have F5 : Hid (Fr (fun b => v.ownBlock = some b) wd w5) := by rw [HV.out]; exact (Fr.of_below HB5.out).trans (Fr.of_grown g5.out fun b e => e)
          refine hK.out _ _ (keep_class F5.out) ?_
          clear hK K
          obtain ⟨gg, cp, rfl, _⟩ := row_of_own (by simp) o5.out
          have K2 := k1 ⟨w5, F5.out⟩
          have z2 : w5.frozen? ⟨g, p, none⟩ = false := by
            obtain ⟨cs, r1, _, _⟩ := I1.out.row
            exact KeepW.loose ⟨w5, F5.out⟩ (Nat.lt_of_lt_of_le hgl HBD.out.size) (by rw [HV.out]; exact I1.out.ne hpn) r1
          simp only at K2
          refine growK_take (by kernel_rfl) [11] 1 _ _ (by kernel_rfl) _ (keep_class F5.out) ?_
          simp only [opsAt, List.getElem?_toArray, List.getElem?_cons_succ, List.getElem?_cons_zero]
          repeat (first | go_big_quiet_step (fail) | quiet_step (fail))
          refine wpQuiet_nil ?_
          clear k0 k1 k0'
          refine growK_last (by kernel_rfl) (by kernel_rfl) (fun K hK => ?_)
          simp only [stepOf, List.getElem?_toArray, List.getElem?_cons_succ, List.getElem?_cons_zero]
          go_simp
          refine hK.out _ _ ?_
          have HN : Hid (InTo w (w5.setCell ⟨g, p, none⟩ (.slice (some ⟨gg, 0, none⟩) (L p ++ [k]).length cp)) g n es k (j + 1)) := by
            have hgh : w.heap.size ≤ g := I1.out.hi
            refine ⟨⟨_, _, I3.out, fun y e hy => ?_, fun y hy => ?_⟩, HW.out.trans ?_⟩
            · rw [HX3.out]
              show (if y = p then _ else _ : List Nat).count e = _
              by_cases hyp : y = p
              · subst hyp
                rw [if_pos rfl, List.count_append, H2.out y e hy]
                congr 1
                by_cases hek : e = k
                · subst hek; simp
                · rw [if_neg (fun h => hek h.2), List.count_eq_zero]; simpa using hek
              · rw [if_neg hyp, if_neg (fun h => hyp h.1), H2.out y e hy]
                rfl
            · show (if y = p then _ else _ : List Nat).length ≤ _
              have := H3.out y hy
              by_cases hyp : y = p
              · subst hyp; rw [if_pos rfl, List.length_append]; simp; omega
              · rw [if_neg hyp]; omega
            · refine (F5.out.below HW.out.size fun b hb hx => ?_).setCell (p := ⟨g, p, none⟩) hgh _
              rw [HV.out] at hx
              have := own_hi (I1.out.own p hpn) hx
              omega
          have HN2 : Hid (InTo w (w5.setCell ⟨g, p, none⟩ (.slice (some ⟨gg, 0, none⟩) ((L p).length + 1) cp)) g n es k (j + 1)) := by
            have h := HN.out
            rw [List.length_append] at h
            exact h
          clear hK K HN
          go_wp2_with fail
          go_roundw
          case rel => exact ⟨j + 1, by omega, by go_num, HN2, HN2.out.low⟩
          case measure => simp [intOf]; omega
        · obtain rfl : j = x.length := by omega
          have HN : Hid (InTo w wr g n es (k + 1) 0) := by
            obtain ⟨⟨vs, L, h1, h2, h3⟩, h4⟩ := HJ.out
            exact ⟨⟨vs, L, h1, fun y e hy => by rw [HX2.out]; exact h2 y e hy, fun y hy => by have := h3 y hy; omega⟩, h4⟩
          clear HJ
          go_wp2_with fail
          go_roundw
          case rel => exact ⟨k + 1, by omega, by go_num, HN⟩
          case measure => simp [intOf]; omega
    · obtain rfl : k = es.length := by omega
      go_wp2_with fail
      go_ret
      exact ⟨g, rfl, HI.out⟩
end Go.Proofs.Yticppgopblgkbaa
