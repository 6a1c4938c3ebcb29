/-
  A slice of ints that came in.
  What package solve's Rank and Solve answer, told; and the law SolveRanks, out of that.
  How many independent vectors there are; the sum of products. Plain mathematics.
  Deeds on rows and on boards, and steps: what stays true. Plain mathematics.
-/
import Derived.Test.YtacncbojplmcjaaMg8
import Derived.Test.YtacncbojplmcjaaRows
import Derived.WalkKit
import Derived.ProofKit
import Derived.OpenShut
import Derived.Below
import Derived.ChangeSlices
import Derived.LaidMore
import Derived.Stop.Joined
import Derived.SizedLaws
import Derived.ChangeOld
import Derived.Lib.Hide
import Derived.Lib.SmallJoins
section
namespace Go.Proofs.Ytacncbojplmcjaa
open Go.ChangeShapes Go.WideShapes Go.ChangeAt Go.RowKit Go.Joins
set_option linter.unusedVariables false

/-- A slice of ints that reads as ks. -/
structure Is (w : World) (a : Option Addr) (cap : Nat) (ks : List Int) : Prop where
  rng : ∀ x ∈ ks, -9223372036854775808 ≤ x ∧ x ≤ 9223372036854775807
  len : ks.length ≤ cap
  most : cap ≤ maxLen
  none : a = none → ks = [] ∧ cap = 0
  here : ks = [] ∨ ∃ b off, a = some ⟨b, off, Option.none⟩ ∧ b < w.heap.size ∧ ∀ i (h : i < ks.length), w.cell? ⟨b, off + i, Option.none⟩ = some (.int .i64 ks[i])
theorem Is.lt {w : World} {a : Option Addr} {cap : Nat} {ks : List Int} (h : Is w a cap ks) : ks.length ≤ 9223372036854775807 := by
  have h1 := h.len; have h2 := h.most; unfold maxLen at h2; omega
theorem Is.some {w : World} {a : Option Addr} {cap : Nat} {ks : List Int} (h : Is w a cap ks) {k : Nat} (hk : k < ks.length) :
    ∃ b off, a = some ⟨b, off, Option.none⟩ ∧ b < w.heap.size ∧ w.cell? ⟨b, off + k, Option.none⟩ = some (.int .i64 ks[k]) := by
  rcases h.here with rfl | ⟨b, off, e, hb, hc⟩
  · simp at hk
  · exact ⟨b, off, e, hb, hc k hk⟩
theorem Is.below {w w' : World} {a : Option Addr} {cap : Nat} {ks : List Int} (h : Is w a cap ks) (k : Below w.heap.size w w') : Is w' a cap ks :=
  ⟨h.rng, h.len, h.most, h.none, by
    rcases h.here with e | ⟨b, off, e, hb, hc⟩
    · exact .inl e
    · exact .inr ⟨b, off, e, Nat.lt_of_lt_of_le hb k.size, fun i hi => by rw [k.cell (p := ⟨b, off + i, Option.none⟩) hb]; exact hc i hi⟩⟩

theorem cellsI : Try.prog.cellsOf 3 = 1 := by kernel_rfl

/-- A list of ints that came in. -/
theorem ints_in {H : Type} {enc : TypeId × Value → H} {w : World} {base fuel : Nat} {spare : Nat → Bool} {held : Bool} {c : Value} {x : DataW H × List MemPlace}
    (h : DataW.trod enc Try.prog w base spare held fuel 29 [c] = some x) :
    ∃ (a : Option Addr) (cap : Nat) (l : List Int), c = .slice a l.length cap ∧ Is w a cap l := by
  rcases open_ints Try.underlying29 Try.underlying3 cellsI h with ⟨hcs, hx⟩ | ⟨a, len, cap, zs, hcs, _, hl, hm, hz, hx, hcell, hwz⟩
  · simp only [List.cons.injEq, and_true] at hcs
    exact ⟨none, 0, [], hcs, ⟨by simp, by simp, by unfold maxLen; omega, fun _ => ⟨rfl, rfl⟩, .inl rfl⟩⟩
  · simp only [List.cons.injEq, and_true] at hcs
    have hlz : len ≤ zs.length := by rw [hz]; split <;> omega
    have hll : (zs.take len).length = len := by simp; omega
    refine ⟨some a, cap, zs.take len, by rw [hll]; exact hcs, fun n hn => ?_, by omega, hm, fun e => (by cases e), ?_⟩
    · have := hwz n (List.mem_of_mem_take hn)
      simpa [Lit.wf, IntKind.min, IntKind.max, IntKind.signed, IntKind.bits] using this
    · by_cases h0 : len = 0
      · exact .inl (List.length_eq_zero_iff.1 (by omega))
      · obtain ⟨b, off, spot⟩ := a
        have hc0 := hcell 0 (by omega)
        have hspot : spot = none := by simpa [Addr.add] using World.cell?_spot hc0
        subst hspot
        have hbl : b < w.heap.size := by
          exact World.block_lt_of_cell? w _ hc0
        refine .inr ⟨b, off, rfl, hbl, fun i hi => ?_⟩
        have hi2 : i < len := by omega
        have hci := hcell i (by omega)
        have e : zs.getD i 0 = (zs.take len)[i] := by simp [List.getD, show i < zs.length by omega]
        rw [e] at hci
        rw [← hci]
        by_cases hi0 : i = 0
        · subst hi0; simp [Addr.add]
        · simp [Addr.add, hi0]
end Go.Proofs.Ytacncbojplmcjaa
end

section
namespace Go.Proofs.Ytacncbojplmcjaa
open Go.ChangeShapes Go.WideShapes Go.ChangeAt Go.RowKit Go.Joins
set_option linter.unusedVariables false

theorem echTo_few (rows : Rws) : ∀ c, (echTo rows c).2.length ≤ c
  | 0 => by simp [echTo]
  | c + 1 => by
    have := echTo_few rows c
    unfold echTo echStep
    split
    · omega
    · simp; omega
/-- The rank of equations of n unknowns. -/
def rkE (es : Eqz) (n : Nat) : Nat := rankN (rowsOf n es es.length)
theorem rkE_le (es : Eqz) (n : Nat) : rkE es n ≤ n := by
  unfold rkE rankN
  refine Nat.le_trans (echTo_few _ _) (longN_le fun x hx => ?_)
  unfold rowsOf at hx
  obtain ⟨l, _, rfl⟩ := List.mem_map.1 hx
  exact Nat.le_of_eq (rowK_len _ _ _)

/-- Deeds: to, from, times. -/
abbrev Dz := List (Nat × Nat × Nat)
/-- One deed, done to a board. -/
def deedTo (b : List Nat) (d : Nat × Nat × Nat) : List Nat := b.set d.1 (if d.1 = d.2.1 then mulN (b.getD d.2.1 0) d.2.2 else b.getD d.1 0 ^^^ mulN (b.getD d.2.1 0) d.2.2)
def runD (D : Dz) (b : List Nat) : List Nat := D.foldl deedTo b
/-- The first k cells' sum. -/
def valK (u : List Nat) (l : Cz) (k : Nat) : Nat := (l.take k).foldl (fun s c => s ^^^ mulN c.2 (u.getD c.1.toNat 0)) 0
def valOf (u : List Nat) (l : Cz) : Nat := valK u l l.length
theorem valK_next {u : List Nat} {l : Cz} {k : Nat} (h : k < l.length) : valK u l (k + 1) = valK u l k ^^^ mulN l[k].2 (u.getD l[k].1.toNat 0) := by
  unfold valK
  rw [List.take_succ_eq_append_getElem h, List.foldl_append]
  rfl
/-- What the equations come to, the unknowns being u. -/
def valsOf (es : Eqz) (u : List Nat) : List Nat := es.map (valOf u)
/-- What a schedule says of equations of n unknowns. -/
structure Says (es : Eqz) (n : Nat) (D : Dz) (Wh : List Nat) : Prop where
  deed : ∀ d ∈ D, d.1 < es.length ∧ d.2.1 < es.length ∧ d.2.2 < 256 ∧ (d.1 = d.2.1 → d.2.2 ≠ 0)
  len : Wh.length = n
  slot : ∀ x ∈ Wh, x < es.length
  tells : ∀ u : List Nat, u.length = n → IsByte u → ∀ i, i < n → (runD D (valsOf es u)).getD (Wh.getD i 0) 0 = u.getD i 0
/-- The slice '.slice a D.length cap' reads as these deeds. -/
structure Dr (w : World) (a : Option Addr) (cap : Nat) (D : Dz) : Prop where
  len : D.length ≤ cap
  most : cap ≤ maxLen
  here : D = [] ∨ ∃ b off, a = some ⟨b, off, Option.none⟩ ∧ b < w.heap.size ∧ ∀ i (h : i < D.length), w.cell? ⟨b, off + i * 3, Option.none⟩ = some (.int .i64 ((D[i].1 : Nat) : Int)) ∧ w.cell? ⟨b, off + i * 3 + 1, Option.none⟩ = some (.int .i64 ((D[i].2.1 : Nat) : Int)) ∧ w.cell? ⟨b, off + i * 3 + 2, Option.none⟩ = some (.int .u8 ((D[i].2.2 : Nat) : Int))
/-- What Solve gives back where the rank is full. -/
def SolRet (es : Eqz) (n : Nat) (w : World) (e : Ending) (w' : World) : Prop :=
  ∃ da dc D wa wc Wh, e = .returned (.tuple #[.agg #[.slice da D.length dc, .slice wa Wh.length wc], .int .i64 0]) ∧ Dr w' da dc D ∧ Is w' wa wc (Wh.map fun n : Nat => (n : Int)) ∧ Says es n D Wh ∧ Below w.heap.size w w'
/-- What Solve gives back else. -/
def SolNone (er : Nat) (w : World) (e : Ending) (w' : World) : Prop :=
  ∃ da dc wa wc, e = .returned (.tuple #[.agg #[.slice da 0 dc, .slice wa 0 wc], .int .i64 (er : Int)]) ∧ Below w.heap.size w w'
/-- What package solve answers. -/
structure SolC : Prop where
  rank : ∀ (a : Option Addr) (cap : Nat) (es : Eqz) (n : Int) (w : World), -9223372036854775808 ≤ n ∧ n ≤ 9223372036854775807 → Er w a cap es → Calls Try.prog 7 #[.slice a es.length cap, .int .i64 n] w fun e w' => e = .returned (.tuple #[.int .i64 ((if RightP es n then rkE es n.toNat else 0 : Nat) : Int), .int .i64 ((if RightP es n then 0 else 1 : Nat) : Int)]) ∧ Below w.heap.size w w'
  bad : ∀ (a : Option Addr) (cap : Nat) (es : Eqz) (n : Int) (w : World), -9223372036854775808 ≤ n ∧ n ≤ 9223372036854775807 → Er w a cap es → ¬ RightP es n → Calls Try.prog 8 #[.slice a es.length cap, .int .i64 n] w (SolNone 1 w)
  low : ∀ (a : Option Addr) (cap : Nat) (es : Eqz) (n : Nat) (w : World), Er w a cap es → RightP es (n : Int) → rkE es n < n → Calls Try.prog 8 #[.slice a es.length cap, .int .i64 (n : Int)] w (SolNone 9 w)
  full : ∀ (a : Option Addr) (cap : Nat) (es : Eqz) (n : Nat) (w : World), Er w a cap es → RightP es (n : Int) → rkE es n = n → Calls Try.prog 8 #[.slice a es.length cap, .int .i64 (n : Int)] w (SolRet es n w)

set_option maxRecDepth 100000 in
theorem awake11_any (HC : SolC) (w : World) : Calls Try.prog 5 #[] w fun e w' => e = .returned (.bool true) ∧ Below w.heap.size w w' := by
  have E1 : Hid (Calls Try.prog 8 #[.slice none 0 0, .int .i64 1] w (SolNone 9 w)) := HC.low none 0 [] 1 w (nil_er w) ⟨by omega, by omega, by simp, by simp⟩ (by
    have h : rkE [] 1 = 0 := rfl
    omega)
  clear HC
  go_enter Try.func5, Try.ntmps5
  go_wp2_with fail
  refine E1.out.mono ?_
  rintro e w1 ⟨da, dc, wa, wc, rfl, b1⟩
  have HB1 := Lib.hid b1
  clear b1 E1
  go_wp2_with fail
  go_ret
  exact ⟨rfl, HB1.out.alloc HB1.out.size _⟩
end Go.Proofs.Ytacncbojplmcjaa
end

section
namespace Go.Proofs.Ytacncbojplmcjaa
set_option linter.unusedVariables false

/-- Each has a number at its own place, the ones behind it have none there. -/
def Tri (l : List (V × Nat)) : Prop := (∀ s ∈ l, s.1 s.2 ≠ GF.zero) ∧ l.Pairwise fun s x => x.1 s.2 = GF.zero

theorem span_map (f : V → V) (ha : ∀ u v, f (V.add u v) = V.add (f u) (f v)) (hs : ∀ c u, f (V.smul c u) = V.smul c (f u)) (hz : f V.zero = V.zero) : ∀ {l : List V} {v : V}, Span l v → Span (l.map f) (f v)
  | [], v, h => by rw [show v = V.zero from h, hz]; exact Span.zero _
  | s :: t, _, ⟨a, u, hu, rfl⟩ => ⟨a, f u, span_map f ha hs hz hu, by rw [ha, hs]⟩
/-- One vector fewer spans all that has nothing at p. -/
theorem span_elim (p : Nat) : ∀ B : List V, (∃ b ∈ B, b p ≠ GF.zero) → ∃ B' : List V, B'.length + 1 = B.length ∧ ∀ v, Span B v → v p = GF.zero → Span B' v
  | [], h => by obtain ⟨b, hb, _⟩ := h; cases hb
  | s :: t, h => by
    rcases GF.em (s p) with h0 | h0
    · obtain ⟨t', h1, h2⟩ := span_elim p t (by
        obtain ⟨b, hb, hn⟩ := h
        rcases List.mem_cons.1 hb with rfl | hb
        · exact absurd h0 hn
        · exact ⟨b, hb, hn⟩)
      refine ⟨s :: t', by simp; omega, ?_⟩
      rintro _ ⟨a, u, hu, rfl⟩ hz
      refine ⟨a, u, h2 u hu ?_, rfl⟩
      have hz' : GF.add (GF.mul a (s p)) (u p) = GF.zero := hz
      rw [h0, GF.mul_zero, GF.zero_add] at hz'
      exact hz'
    · refine ⟨t.map fun x => V.add x (V.smul (GF.mul (x p) (GF.inv (s p))) s), by simp, ?_⟩
      rintro _ ⟨a, u, hu, rfl⟩ hz
      have hz' : GF.add (GF.mul a (s p)) (u p) = GF.zero := hz
      have e : GF.mul a (s p) = u p := GF.eq_of_add hz'
      have ea : GF.mul (u p) (GF.inv (s p)) = a := by rw [← e, GF.mul_assoc, GF.mul_inv _ h0, GF.mul_one]
      have k := span_map (fun x => V.add x (V.smul (GF.mul (x p) (GF.inv (s p))) s)) (fun u v => by
          show V.add (V.add u v) (V.smul (GF.mul (GF.add (u p) (v p)) _) s) = _
          rw [GF.add_mul, V.add_smul, V.add_swap]) (fun c u => by
          show V.add (V.smul c u) (V.smul (GF.mul (GF.mul c (u p)) _) s) = _
          rw [GF.mul_assoc, ← V.smul_smul, V.smul_add]) (by
          show V.add V.zero (V.smul (GF.mul GF.zero _) s) = _
          rw [GF.zero_mul, V.zero_smul, V.add_zero]) hu
      have e2 : V.add (V.smul a s) u = V.add u (V.smul (GF.mul (u p) (GF.inv (s p))) s) := by rw [ea, V.add_comm]
      rw [e2]
      exact k
theorem tri_le : ∀ {T : List (V × Nat)} {B : List V}, Tri T → (∀ s ∈ T, Span B s.1) → T.length ≤ B.length
  | [], _, _, _ => Nat.zero_le _
  | s :: t, B, ⟨h1, h2⟩, hb => by
    rw [List.pairwise_cons] at h2
    have hs : ∃ b ∈ B, b s.2 ≠ GF.zero := by
      by_cases e : ∃ b ∈ B, b s.2 ≠ GF.zero
      · exact e
      · refine absurd ?_ (h1 s (by simp))
        refine Span.all (fun v => v s.2 = GF.zero) rfl (fun u v hu hv => ?_) (fun c u hu => ?_) (fun b hb' => ?_) (hb s (by simp))
        · show GF.add (u s.2) (v s.2) = _
          rw [hu, hv, GF.add_zero]
        · show GF.mul c (u s.2) = _
          rw [hu, GF.mul_zero]
        · rcases GF.em (b s.2) with h | h
          · exact h
          · exact absurd ⟨b, hb', h⟩ e
    obtain ⟨B', e, k⟩ := span_elim s.2 B hs
    have := tri_le (T := t) (B := B') ⟨fun x hx => h1 x (List.mem_cons_of_mem _ hx), h2.2⟩ fun x hx => k x.1 (hb x (List.mem_cons_of_mem _ hx)) (h2.1 x hx)
    simp only [List.length_cons]
    omega
theorem Ech.tri {l : List (V × Nat)} (h : Ech l) : Tri l := by
  have h1 := ech_pairs.1 h
  refine ⟨fun s hs => (h1.1 s hs).1, ?_⟩
  have h2 := h1.2
  rw [List.pairwise_map] at h2
  refine List.Pairwise.imp_of_mem ?_ h2
  intro s x _ hx hlt
  exact (h1.1 x hx).2 _ hlt
/-- The rank is how many independent ones there are that span the rows. -/
theorem rank_tri {rows : Rws} {T : List (V × Nat)} (hb : ∀ r ∈ rows, IsByte r) (ht : Tri T) (h1 : ∀ s ∈ T, Span (vrows rows) s.1) (h2 : ∀ s ∈ vrows rows, Span (T.map (·.1)) s) : rankN rows = T.length := by
  have R := red_to (pads_rect (N := longN rows) hb) (longN rows)
  have e1 : vrows (pads rows (longN rows)) = vrows rows := by
    unfold vrows pads
    rw [List.map_map]
    exact List.map_congr_left fun r hr => toV_fillN (hb r hr) (longN_ge r hr)
  have w := @Red.whole _ _ _ _ _ R
  have n := R.within
  rw [e1] at w n
  have a1 := tri_le (B := (heads (echTo (pads rows (longN rows)) (longN rows)).1 (echTo (pads rows (longN rows)) (longN rows)).2).map (·.1)) ht fun s hs => w (h1 s hs)
  have a2 := tri_le (B := T.map (·.1)) R.ech.tri fun s hs => Span.le h2 (n s hs)
  have e2 : (heads (echTo (pads rows (longN rows)) (longN rows)).1 (echTo (pads rows (longN rows)) (longN rows)).2).length = rankN rows := by simp [heads, rankN]
  rw [List.length_map] at a1 a2
  omega

/-- How many different numbers there are below n. -/
theorem nodup_le : ∀ (n : Nat) {l : List Nat}, l.Nodup → (∀ x ∈ l, x < n) → l.length ≤ n
  | 0, l, _, h => by
    cases l with
    | nil => simp
    | cons x l => have := h x (by simp); omega
  | n + 1, l, hd, h => by
    by_cases e : n ∈ l
    · have := nodup_le n (l := l.erase n) (hd.erase n) fun x hx => by
        have h1 := h x (List.mem_of_mem_erase hx)
        have h2 : x ≠ n := fun e => by subst e; exact (List.Nodup.not_mem_erase hd) hx
        omega
      rw [List.length_erase_of_mem e] at this
      omega
    · have := nodup_le n (l := l) hd fun x hx => by
        have h1 := h x hx
        have h2 : x ≠ n := fun e2 => e (e2 ▸ hx)
        omega
      omega
/-- As many as there are below n are all of them. -/
theorem nodup_all {n : Nat} {l : List Nat} (hd : l.Nodup) (h : ∀ x ∈ l, x < n) (hn : n ≤ l.length) {i : Nat} (hi : i < n) : i ∈ l := by
  by_cases e : i ∈ l
  · exact e
  · have := nodup_le n (l := i :: l) (List.nodup_cons.2 ⟨e, hd⟩) fun x hx => by
      rcases List.mem_cons.1 hx with rfl | hx
      · exact hi
      · exact h x hx
    simp at this
    omega

/-- The sum of the products of the first n numbers. -/
def dot (v x : V) : Nat → GF
  | 0 => GF.zero
  | n + 1 => GF.add (dot v x n) (GF.mul (v n) (x n))
theorem dot_add (u v x : V) : ∀ n, dot (V.add u v) x n = GF.add (dot u x n) (dot v x n)
  | 0 => (GF.add_zero _).symm
  | n + 1 => by
    show GF.add (dot (V.add u v) x n) (GF.mul (GF.add (u n) (v n)) (x n)) = _
    rw [dot_add u v x n, GF.add_mul, GF.add_swap]; rfl
theorem dot_smul (c : GF) (u x : V) : ∀ n, dot (V.smul c u) x n = GF.mul c (dot u x n)
  | 0 => (GF.mul_zero _).symm
  | n + 1 => by
    show GF.add (dot (V.smul c u) x n) (GF.mul (GF.mul c (u n)) (x n)) = _
    rw [dot_smul c u x n, GF.mul_assoc, ← GF.mul_add]; rfl
theorem dot_none {v x : V} : ∀ {n}, (∀ i, i < n → v i = GF.zero) → dot v x n = GF.zero
  | 0, _ => rfl
  | n + 1, h => by
    show GF.add (dot v x n) (GF.mul (v n) (x n)) = _
    rw [dot_none (n := n) fun i hi => h i (by omega), h n (by omega), GF.zero_mul, GF.add_zero]
/-- One number alone. -/
theorem dot_one {v x : V} {k : Nat} : ∀ {n}, k < n → (∀ i, i < n → i ≠ k → v i = GF.zero) → dot v x n = GF.mul (v k) (x k)
  | n + 1, hk, h => by
    show GF.add (dot v x n) (GF.mul (v n) (x n)) = _
    by_cases e : k = n
    · subst e
      rw [dot_none fun i hi => h i (by omega) (by omega), GF.zero_add]
    · rw [dot_one (n := n) (by omega) fun i hi => h i (by omega), h n (by omega) (Ne.symm e), GF.zero_mul, GF.add_zero]
/-- A number at one place. -/
def onlyV (k : Nat) (c : GF) : V := fun i => if i = k then c else GF.zero
theorem onlyV_at (k : Nat) (c : GF) : onlyV k c k = c := if_pos rfl
theorem onlyV_not {k i : Nat} (c : GF) (h : i ≠ k) : onlyV k c i = GF.zero := if_neg h
/-- A number more at a place. -/
theorem dot_put {v v' x : V} {k : Nat} {n : Nat} (hk : k < n) (h0 : v k = GF.zero) (h : ∀ i, i ≠ k → v' i = v i) : dot v' x n = GF.add (dot v x n) (GF.mul (v' k) (x k)) := by
  have e : v' = V.add v (onlyV k (v' k)) := funext fun i => by
    show v' i = GF.add (v i) (onlyV k (v' k) i)
    by_cases e : i = k
    · rw [e, onlyV_at, h0, GF.zero_add]
    · rw [onlyV_not _ e, GF.add_zero, h i e]
  have e3 : dot (onlyV k (v' k)) x n = GF.mul (v' k) (x k) := by
    rw [dot_one (k := k) hk fun i _ hi => onlyV_not _ hi, onlyV_at]
  rw [← e3, ← dot_add, ← e]

/-- The rows of the equations, and what the equations come to. -/
theorem rowOf_len (n : Nat) (l : Cz) : (rowOf n l).length = n := rowK_len _ _ _
theorem valK_dot {n : Nat} {l : Cz} (hok : EqOk (n : Int) l) (hb : ∀ c ∈ l, c.2 < 256) {u : List Nat} (hu : IsByte u) (hl : u.length = n) : ∀ k, k ≤ l.length → (valK u l k < 256 ∧ (∀ j, (∀ c ∈ l.take k, c.1.toNat ≠ j) → (rowK n l k).getD j 0 = 0) ∧ (dot (toV (rowK n l k)) (toV u) n).1 = valK u l k)
  | 0, _ => by
    refine ⟨by simp [valK], fun j _ => ?_, ?_⟩
    · show (List.replicate n 0).getD j 0 = 0
      by_cases h : j < n
      · simp [List.getD, h]
      · simp [List.getD, h]
    · rw [dot_none fun i _ => ?_]
      · rfl
      · show toV (List.replicate n 0) i = _
        rw [toV_nil]; rfl
  | k + 1, hk => by
    obtain ⟨i1, i2, i3⟩ := valK_dot hok hb hu hl k (by omega)
    have hc := hok.1 _ (List.getElem_mem (show k < l.length by omega))
    have hcb := hb _ (List.getElem_mem (show k < l.length by omega))
    have hp : l[k].1.toNat < n := by omega
    have hlen := rowK_len n l k
    have ht : l.take (k + 1) = l.take k ++ [l[k]] := List.take_succ_eq_append_getElem (by omega)
    have h0 : (rowK n l k).getD l[k].1.toNat 0 = 0 := i2 _ fun c hc' e => by
      obtain ⟨j, hj, e2⟩ := List.getElem_of_mem hc'
      rw [List.length_take] at hj
      rw [List.getElem_take] at e2
      have h1 := hok.1 _ (List.getElem_mem (show j < l.length by omega))
      have h2 := List.pairwise_iff_getElem.1 hok.2 j k (by simp; omega) (by simp; omega) (by omega)
      simp only [List.getElem_map] at h2
      rw [← e2] at e
      omega
    refine ⟨?_, fun j hj => ?_, ?_⟩
    · rw [valK_next (by omega)]
      exact xor_lt i1 (mulN_lt _ hcb)
    · rw [rowK_next (by omega)]
      have h1 : l[k].1.toNat ≠ j := hj l[k] (by rw [ht]; exact List.mem_append_right _ (by simp))
      have h2 := i2 j fun c hc' => hj c (by rw [ht]; exact List.mem_append_left _ hc')
      simpa [List.getD, List.getElem?_set_ne h1] using h2
    · rw [dot_put (v := toV (rowK n l k)) (v' := toV (rowK n l (k + 1))) hp ?_ ?_]
      · show (dot (toV (rowK n l k)) (toV u) n).1 ^^^ mulN (toV (rowK n l (k + 1)) l[k].1.toNat).1 (toV u l[k].1.toNat).1 = _
        rw [i3, valK_next (by omega), toV_val hu]
        congr 2
        show (rowK n l (k + 1)).getD l[k].1.toNat 0 % 256 = _
        rw [rowK_next (by omega)]
        rw [show ((rowK n l k).set l[k].1.toNat l[k].2).getD l[k].1.toNat 0 = l[k].2 by simp [List.getD, hlen, hp]]
        exact Nat.mod_eq_of_lt hcb
      · refine GF.ext ?_
        show (rowK n l k).getD l[k].1.toNat 0 % 256 = 0
        rw [h0]
      · intro i hi
        refine GF.ext ?_
        show (rowK n l (k + 1)).getD i 0 % 256 = (rowK n l k).getD i 0 % 256
        rw [rowK_next (by omega)]
        simp [List.getD, List.getElem?_set_ne (Ne.symm hi)]
theorem valOf_dot {n : Nat} {l : Cz} (hok : EqOk (n : Int) l) (hb : ∀ c ∈ l, c.2 < 256) {u : List Nat} (hu : IsByte u) (hl : u.length = n) : valOf u l < 256 ∧ (dot (toV (rowOf n l)) (toV u) n).1 = valOf u l :=
  ⟨(valK_dot hok hb hu hl l.length (Nat.le_refl _)).1, (valK_dot hok hb hu hl l.length (Nat.le_refl _)).2.2⟩
end Go.Proofs.Ytacncbojplmcjaa
end

section
namespace Go.Proofs.Ytacncbojplmcjaa
set_option linter.unusedVariables false

/-- Rows as they are by now, and the deeds so far. -/
abbrev Pd := Rws × Dz
def addP (p : Pd) (t f c : Nat) : Pd := if c = 0 then p else (p.1.set t (plusN (p.1.getD t []) (p.1.getD f []) c), p.2 ++ [(t, f, c)])
def sclP (p : Pd) (t c : Nat) : Pd := if c = 1 then p else (p.1.set t (scaleN (p.1.getD t []) c), p.2 ++ [(t, t, c)])
structure Ok (m n : Nat) (p : Pd) : Prop where
  rect : Rect p.1 m n
  deed : ∀ d ∈ p.2, d.1 < m ∧ d.2.1 < m ∧ d.2.2 < 256 ∧ (d.1 = d.2.1 → d.2.2 ≠ 0)
section
variable {m n t f c : Nat} {p : Pd}
theorem Ok.add (h : Ok m n p) (ht : t < m) (hf : f < m) (hc : c < 256) (hne : t ≠ f) : Ok m n (addP p t f c) := by
  unfold addP
  split
  · exact h
  · refine ⟨h.rect.set ?_ ?_, fun d hd => ?_⟩
    · rw [plusN_len _ _ _ (by rw [(h.rect.get ht).1, (h.rect.get hf).1]; exact Nat.le_refl _)]; exact (h.rect.get ht).1
    · exact plusN_byte _ _ _ (h.rect.get ht).2 (h.rect.get hf).2
    · rcases List.mem_append.1 hd with hd | hd
      · exact h.deed d hd
      · rw [List.mem_singleton.1 hd]
        exact ⟨ht, hf, hc, fun e => absurd e hne⟩
theorem Ok.scl (h : Ok m n p) (ht : t < m) (hc : c < 256) (h0 : c ≠ 0) : Ok m n (sclP p t c) := by
  unfold sclP
  split
  · exact h
  · refine ⟨h.rect.set ?_ ?_, fun d hd => ?_⟩
    · rw [scaleN_len]; exact (h.rect.get ht).1
    · exact scaleN_byte _ _ (h.rect.get ht).2
    · rcases List.mem_append.1 hd with hd | hd
      · exact h.deed d hd
      · rw [List.mem_singleton.1 hd]
        exact ⟨ht, ht, hc, fun _ => h0⟩
theorem add_get (h : Ok m n p) (ht : t < m) (i : Nat) (hi : i ≠ t) : (addP p t f c).1.getD i [] = p.1.getD i [] := by
  unfold addP
  split
  · rfl
  · show (p.1.set t _).getD i [] = _
    rw [getD_set (by rw [h.rect.rows]; exact ht), if_neg hi]
theorem scl_get (h : Ok m n p) (ht : t < m) (i : Nat) (hi : i ≠ t) : (sclP p t c).1.getD i [] = p.1.getD i [] := by
  unfold sclP
  split
  · rfl
  · show (p.1.set t _).getD i [] = _
    rw [getD_set (by rw [h.rect.rows]; exact ht), if_neg hi]
theorem add_row (h : Ok m n p) (ht : t < m) (hf : f < m) (hc : c < 256) : vrow (addP p t f c).1 t = V.add (vrow p.1 t) (V.smul (gf c hc) (vrow p.1 f)) := by
  unfold addP
  split
  · rename_i e
    subst e
    have : gf 0 hc = GF.zero := rfl
    rw [this, V.zero_smul, V.add_zero]
  · show toV ((p.1.set t _).getD t []) = _
    rw [getD_set (by rw [h.rect.rows]; exact ht), if_pos rfl]
    exact toV_plus (h.rect.get ht).2 (h.rect.get hf).2 (by rw [(h.rect.get ht).1, (h.rect.get hf).1]) hc
theorem scl_row (h : Ok m n p) (ht : t < m) (hc : c < 256) : vrow (sclP p t c).1 t = V.smul (gf c hc) (vrow p.1 t) := by
  unfold sclP
  split
  · rename_i e
    subst e
    have : gf 1 hc = GF.one := rfl
    rw [this, V.one_smul]
  · show toV ((p.1.set t _).getD t []) = _
    rw [getD_set (by rw [h.rect.rows]; exact ht), if_pos rfl]
    exact toV_scale (h.rect.get ht).2 hc
theorem vrow_of_get {M M' : Rws} {i : Nat} (h : M'.getD i [] = M.getD i []) : vrow M' i = vrow M i := by unfold vrow; rw [h]
end

/-! Boards. -/
theorem runD_snoc (D : Dz) (d : Nat × Nat × Nat) (b : List Nat) : runD (D ++ [d]) b = deedTo (runD D b) d := by simp [runD, List.foldl_append]
theorem getD_setN {l : List Nat} {i j x : Nat} (hi : i < l.length) : (l.set i x).getD j 0 = if j = i then x else l.getD j 0 := by
  by_cases e : j = i
  · subst e; simp [List.getD, hi]
  · simp [List.getD, List.getElem?_set_ne (Ne.symm e), e]
theorem deed_ok {b : List Nat} {m : Nat} (hl : b.length = m) (hb : IsByte b) {d : Nat × Nat × Nat} (hd : d.1 < m ∧ d.2.1 < m ∧ d.2.2 < 256 ∧ (d.1 = d.2.1 → d.2.2 ≠ 0)) : (deedTo b d).length = m ∧ IsByte (deedTo b d) := by
  refine ⟨by simp [deedTo, hl], fun x hx => ?_⟩
  unfold deedTo at hx
  rcases List.mem_or_eq_of_mem_set hx with h | h
  · exact hb x h
  · rw [h]
    have h1 : mulN (b.getD d.2.1 0) d.2.2 < 256 := mulN_lt _ (getD_lt hb _)
    split
    · exact h1
    · exact xor_lt (getD_lt hb _) h1
theorem deed_at {b : List Nat} {m : Nat} (hl : b.length = m) (hb : IsByte b) {t f c : Nat} (ht : t < m) (hc : c < 256) (i : Nat) :
    toV (deedTo b (t, f, c)) i = if i = t then (if t = f then GF.mul (gf c hc) (toV b f) else GF.add (toV b t) (GF.mul (gf c hc) (toV b f))) else toV b i := by
  have h1 : mulN (b.getD f 0) c < 256 := mulN_lt _ (getD_lt hb _)
  have e1 : mulN (b.getD f 0) c = (GF.mul (gf c hc) (toV b f)).1 := by
    rw [GF.mul_comm]
    show _ = mulN (toV b f).1 c
    rw [toV_val hb]
  refine GF.ext ?_
  show (deedTo b (t, f, c)).getD i 0 % 256 = _
  unfold deedTo
  rw [getD_setN (by rw [hl]; exact ht)]
  by_cases e : i = t
  · rw [if_pos e, if_pos e]
    simp only []
    by_cases e2 : t = f
    · rw [if_pos e2, if_pos e2, e1]
      exact Nat.mod_eq_of_lt (GF.mul (gf c hc) (toV b f)).2
    · rw [if_neg e2, if_neg e2, e1]
      show _ = (toV b t).1 ^^^ _
      rw [toV_val hb]
      exact Nat.mod_eq_of_lt (xor_lt (getD_lt hb _) (GF.mul (gf c hc) (toV b f)).2)
  · rw [if_neg e, if_neg e]; rfl
theorem run_ok {m : Nat} : ∀ {D : Dz} {b : List Nat}, b.length = m → IsByte b → (∀ d ∈ D, d.1 < m ∧ d.2.1 < m ∧ d.2.2 < 256 ∧ (d.1 = d.2.1 → d.2.2 ≠ 0)) → (runD D b).length = m ∧ IsByte (runD D b)
  | [], b, hl, hb, _ => ⟨hl, hb⟩
  | d :: D, b, hl, hb, hd => by
    have h := deed_ok hl hb (hd d (by simp))
    exact run_ok (D := D) (b := deedTo b d) h.1 h.2 fun x hx => hd x (List.mem_cons_of_mem _ hx)

/-- The equations are ones. -/
structure EqsB (es : Eqz) (n : Nat) : Prop where
  ok : ∀ l ∈ es, EqOk (n : Int) l
  byte : ∀ l ∈ es, ∀ c ∈ l, c.2 < 256
theorem EqsB.vals {es : Eqz} {n : Nat} (h : EqsB es n) {u : List Nat} (hl : u.length = n) (hu : IsByte u) : (valsOf es u).length = es.length ∧ IsByte (valsOf es u) := by
  refine ⟨by simp [valsOf], fun x hx => ?_⟩
  obtain ⟨l, hl', rfl⟩ := List.mem_map.1 hx
  exact (valOf_dot (h.ok l hl') (h.byte l hl') hu hl).1
/-- The slots that L names have what their rows say. -/
def Val (es : Eqz) (n : Nat) (p : Pd) (L : Nat → Prop) : Prop := ∀ u : List Nat, u.length = n → IsByte u → ∀ i, i < es.length → L i → toV (runD p.2 (valsOf es u)) i = dot (vrow p.1 i) (toV u) n
theorem Val.mono {es : Eqz} {n : Nat} {p : Pd} {L L' : Nat → Prop} (h : Val es n p L) (k : ∀ i, L' i → L i) : Val es n p L' := fun u a b i hi hL => h u a b i hi (k i hL)
theorem Val.add {es : Eqz} {n : Nat} {p : Pd} {L : Nat → Prop} {t f c : Nat} (hE : EqsB es n) (h : Ok es.length n p) (hv : Val es n p L) (ht : t < es.length) (hf : f < es.length) (hc : c < 256) (hne : t ≠ f) (lt : L t) (lf : L f) : Val es n (addP p t f c) L := by
  intro u hl hu i hi hLi
  have hb := run_ok (hE.vals hl hu).1 (hE.vals hl hu).2 h.deed
  by_cases h0 : c = 0
  · have e : addP p t f c = p := by unfold addP; rw [if_pos h0]
    rw [e]; exact hv u hl hu i hi hLi
  · have e2 : (addP p t f c).2 = p.2 ++ [(t, f, c)] := by unfold addP; rw [if_neg h0]
    rw [e2, runD_snoc, deed_at hb.1 hb.2 ht hc]
    by_cases e : i = t
    · subst e
      rw [if_pos rfl, if_neg hne, add_row h ht hf hc, dot_add, dot_smul, hv u hl hu i hi hLi, hv u hl hu f hf lf]
    · rw [if_neg e, vrow_of_get (add_get h ht i e)]
      exact hv u hl hu i hi hLi
theorem Val.scl {es : Eqz} {n : Nat} {p : Pd} {L : Nat → Prop} {t c : Nat} (hE : EqsB es n) (h : Ok es.length n p) (hv : Val es n p L) (ht : t < es.length) (hc : c < 256) (lt : L t) : Val es n (sclP p t c) L := by
  intro u hl hu i hi hLi
  have hb := run_ok (hE.vals hl hu).1 (hE.vals hl hu).2 h.deed
  by_cases h0 : c = 1
  · have e : sclP p t c = p := by unfold sclP; rw [if_pos h0]
    rw [e]; exact hv u hl hu i hi hLi
  · have e2 : (sclP p t c).2 = p.2 ++ [(t, t, c)] := by unfold sclP; rw [if_neg h0]
    rw [e2, runD_snoc, deed_at hb.1 hb.2 ht hc]
    by_cases e : i = t
    · subst e
      rw [if_pos rfl, if_pos rfl, scl_row h ht hc, dot_smul, hv u hl hu i hi hLi]
    · rw [if_neg e, vrow_of_get (scl_get h ht i e)]
      exact hv u hl hu i hi hLi

/-! Steps. -/
structure Stp (m n : Nat) (M : Rws) (S : List (Nat × Nat)) : Prop where
  low : ∀ s ∈ S, s.1 < m ∧ s.2 < n
  one : ∀ s ∈ S, vrow M s.1 s.2 = GF.one
  pw : S.Pairwise fun s x => vrow M x.1 s.2 = GF.zero
  nd : (S.map Prod.fst).Nodup
def stV (M : Rws) (S : List (Nat × Nat)) : List V := S.map fun s => vrow M s.1
theorem Stp.at {m n : Nat} {M : Rws} {S : List (Nat × Nat)} (h : Stp m n M S) {i j : Nat} (hi : i < S.length) (hj : j < S.length) (hij : i < j) : vrow M S[j].1 S[i].2 = GF.zero :=
  List.pairwise_iff_getElem.1 h.pw i j hi hj hij
theorem Stp.cols {m n : Nat} {M : Rws} {S : List (Nat × Nat)} (h : Stp m n M S) : (S.map Prod.snd).Nodup := by
  refine List.pairwise_iff_getElem.2 fun i j hi hj hij e => ?_
  rw [List.length_map] at hi hj
  simp only [List.getElem_map] at e
  have h1 := h.at hi hj hij
  rw [e, h.one _ (List.getElem_mem hj)] at h1
  exact GF.one_ne h1
theorem Stp.few {m n : Nat} {M : Rws} {S : List (Nat × Nat)} (h : Stp m n M S) : S.length ≤ n := by
  have := nodup_le n h.cols fun x hx => by
    obtain ⟨s, hs, rfl⟩ := List.mem_map.1 hx
    exact (h.low s hs).2
  simpa using this
theorem Stp.same {m n : Nat} {M M' : Rws} {S : List (Nat × Nat)} (h : Stp m n M S) (k : ∀ s ∈ S, M'.getD s.1 [] = M.getD s.1 []) : Stp m n M' S := by
  have e : ∀ s ∈ S, vrow M' s.1 = vrow M s.1 := fun s hs => vrow_of_get (k s hs)
  refine ⟨h.low, fun s hs => by rw [e s hs]; exact h.one s hs, ?_, h.nd⟩
  refine List.Pairwise.imp_of_mem ?_ h.pw
  intro s x _ hx hz
  rw [e x hx]; exact hz
theorem stV_same {M M' : Rws} {S : List (Nat × Nat)} (k : ∀ s ∈ S, M'.getD s.1 [] = M.getD s.1 []) : stV M' S = stV M S :=
  List.map_congr_left fun s hs => vrow_of_get (k s hs)

/-- The first k steps' unknowns are cleared from an equation. -/
def canc (S : List (Nat × Nat)) (eq : Nat) : Nat → Pd → Pd
  | 0, p => p
  | k + 1, p => addP (canc S eq k p) eq (S.getD k (0, 0)).1 (at2 (canc S eq k p).1 eq (S.getD k (0, 0)).2)
structure CancTo (m n : Nat) (S : List (Nat × Nat)) (eq k : Nat) (p q : Pd) : Prop where
  ok : Ok m n q
  other : ∀ i, i ≠ eq → q.1.getD i [] = p.1.getD i []
  clear : ∀ j, (h : j < S.length) → j < k → vrow q.1 eq S[j].2 = GF.zero
  diff : ∃ s, Span (stV p.1 S) s ∧ vrow q.1 eq = V.add (vrow p.1 eq) s
  app : ∃ X : Dz, q.2 = p.2 ++ X ∧ X.length ≤ k
theorem getP {S : List (Nat × Nat)} {k : Nat} (h : k < S.length) : S.getD k (0, 0) = S[k] := by simp [List.getD, h]
theorem not_fst {S : List (Nat × Nat)} {eq : Nat} (hn : eq ∉ S.map Prod.fst) {s : Nat × Nat} (hs : s ∈ S) : s.1 ≠ eq := fun e => hn (e ▸ List.mem_map.2 ⟨s, hs, rfl⟩)
theorem canc_to {m n : Nat} {S : List (Nat × Nat)} {eq : Nat} {p : Pd} (h : Ok m n p) (hs : Stp m n p.1 S) (he : eq < m) (hn : eq ∉ S.map Prod.fst) : ∀ k, k ≤ S.length → CancTo m n S eq k p (canc S eq k p)
  | 0, _ => ⟨h, fun _ _ => rfl, fun j _ hj => by omega, ⟨V.zero, Span.zero _, (V.add_zero _).symm⟩, ⟨[], by simp [canc], by simp⟩⟩
  | k + 1, hk => by
    have ih := canc_to h hs he hn k (by omega)
    have hkS : k < S.length := by omega
    have hm := List.getElem_mem hkS
    have hlow := hs.low _ hm
    have hne := not_fst hn hm
    have hc : at2 (canc S eq k p).1 eq S[k].2 < 256 := ih.ok.rect.at2_lt _ _
    have e0 : canc S eq (k + 1) p = addP (canc S eq k p) eq S[k].1 (at2 (canc S eq k p).1 eq S[k].2) := by
      show addP _ _ _ _ = _
      rw [getP hkS]
    have hrow := add_row ih.ok he hlow.1 hc
    have hrk : vrow (canc S eq k p).1 S[k].1 = vrow p.1 S[k].1 := vrow_of_get (ih.other _ hne)
    rw [hrk] at hrow
    rw [e0]
    refine ⟨ih.ok.add he hlow.1 hc (Ne.symm hne), fun i hi => (add_get ih.ok he i hi).trans (ih.other i hi), fun j hj hjk => ?_, ?_, ?_⟩
    · rw [hrow]
      show GF.add (vrow (canc S eq k p).1 eq S[j].2) (GF.mul _ (vrow p.1 S[k].1 S[j].2)) = GF.zero
      by_cases e : j = k
      · subst e
        rw [hs.one _ hm, GF.mul_one, vrow_at ih.ok.rect _ _ he]
        exact GF.add_self _
      · rw [ih.clear j hj (by omega), hs.at hj hkS (by omega), GF.mul_zero, GF.add_zero]
    · obtain ⟨s, h1, h2⟩ := ih.diff
      refine ⟨V.add s (V.smul (gf _ hc) (vrow p.1 S[k].1)), h1.axpy _ (Span.mem (List.mem_map.2 ⟨S[k], hm, rfl⟩)), ?_⟩
      rw [hrow, h2, V.add_assoc]
    · obtain ⟨X, h1, h2⟩ := ih.app
      unfold addP
      split
      · exact ⟨X, h1, by omega⟩
      · exact ⟨X ++ [(eq, S[k].1, _)], by rw [h1, List.append_assoc], by simp; omega⟩
theorem canc_val {es : Eqz} {n : Nat} {S : List (Nat × Nat)} {eq : Nat} {p : Pd} {L : Nat → Prop} (hE : EqsB es n) (h : Ok es.length n p) (hs : Stp es.length n p.1 S) (he : eq < es.length) (hn : eq ∉ S.map Prod.fst) (hv : Val es n p L) (hL : L eq) (hLS : ∀ s ∈ S, L s.1) : ∀ k, k ≤ S.length → Val es n (canc S eq k p) L
  | 0, _ => hv
  | k + 1, hk => by
    have ih := canc_to h hs he hn k (by omega)
    have hkS : k < S.length := by omega
    have hm := List.getElem_mem hkS
    show Val es n (addP _ _ _ _) L
    rw [getP hkS]
    exact Val.add hE ih.ok (canc_val hE h hs he hn hv hL hLS k (by omega)) he (hs.low _ hm).1 (ih.ok.rect.at2_lt _ _) (Ne.symm (not_fst hn hm)) hL (hLS _ hm)

/-- An equation becomes a step. -/
def takP (p : Pd) (e a : Nat) : Pd := sclP p e (invN (at2 p.1 e a))

/-- What stays true of rows, deeds and steps. -/
structure Pst (es : Eqz) (n : Nat) (p : Pd) (S : List (Nat × Nat)) (L : Nat → Prop) : Prop where
  ok : Ok es.length n p
  st : Stp es.length n p.1 S
  val : Val es n p L
  liv : ∀ s ∈ S, L s.1
  inn : ∀ i, i < es.length → Span (vrows (rowsOf n es es.length)) (vrow p.1 i)
  few : p.2.length ≤ 300 * S.length
theorem Pst.span_st {es : Eqz} {n : Nat} {p : Pd} {S : List (Nat × Nat)} {L : Nat → Prop} (h : Pst es n p S L) {s : V} (hs : Span (stV p.1 S) s) : Span (vrows (rowsOf n es es.length)) s :=
  Span.le (fun x hx => by obtain ⟨y, hy, rfl⟩ := List.mem_map.1 hx; exact h.inn _ (h.st.low y hy).1) hs
theorem Pst.step {es : Eqz} {n : Nat} {p : Pd} {S : List (Nat × Nat)} {L : Nat → Prop} (hE : EqsB es n) (hn : n ≤ 256) (h : Pst es n p S L) {e a : Nat} (he : e < es.length) (hne : e ∉ S.map Prod.fst) (hL : L e) (ha : a < n)
    (h0 : vrow (canc S e S.length p).1 e a ≠ GF.zero) : Pst es n (takP (canc S e S.length p) e a) (S ++ [(e, a)]) L ∧ (∀ i, i ≠ e → (takP (canc S e S.length p) e a).1.getD i [] = p.1.getD i []) ∧
      Span (stV (takP (canc S e S.length p) e a).1 (S ++ [(e, a)])) (vrow p.1 e) ∧ ∃ c s, Span (stV p.1 S) s ∧ vrow (takP (canc S e S.length p) e a).1 e = V.smul c (V.add (vrow p.1 e) s) := by
  have C := canc_to h.ok h.st he hne S.length (Nat.le_refl _)
  have CV := canc_val hE h.ok h.st he hne h.val hL h.liv S.length (Nat.le_refl _)
  generalize canc S e S.length p = q at *
  have hat : vrow q.1 e a = gf (at2 q.1 e a) (C.ok.rect.at2_lt e a) := vrow_at C.ok.rect e a he
  have hz : at2 q.1 e a ≠ 0 := fun e2 => h0 (by rw [hat]; exact GF.ext e2)
  have hx := C.ok.rect.at2_lt e a
  have hil := invN_lt hx
  have hi0 : invN (at2 q.1 e a) ≠ 0 := fun e2 => by
    have := invN_mul hx hz
    rw [e2, mul_zero] at this
    exact absurd this (by decide)
  have hrow : vrow (takP q e a).1 e = V.smul (gf _ hil) (vrow q.1 e) := scl_row C.ok he hil
  have hget : ∀ i, i ≠ e → (takP q e a).1.getD i [] = p.1.getD i [] := fun i hi => (scl_get C.ok he i hi).trans (C.other i hi)
  have hgS : ∀ s ∈ S, (takP q e a).1.getD s.1 [] = p.1.getD s.1 [] := fun s hs => hget _ (not_fst hne hs)
  obtain ⟨s, hs1, hs2⟩ := C.diff
  have hone : vrow (takP q e a).1 e a = GF.one := by
    rw [hrow]
    show GF.mul (gf _ hil) (vrow q.1 e a) = _
    rw [hat, GF.mul_comm]
    exact GF.ext (invN_mul hx hz)
  refine ⟨⟨C.ok.scl he hil hi0, ⟨fun x hx' => ?_, fun x hx' => ?_, ?_, ?_⟩, Val.scl hE C.ok CV he hil hL, fun x hx' => ?_, fun i hi => ?_, ?_⟩, hget, ?_, ⟨_, s, hs1, by rw [hrow, hs2]⟩⟩
  · rcases List.mem_append.1 hx' with k | k
    · exact h.st.low x k
    · rw [List.mem_singleton.1 k]; exact ⟨he, ha⟩
  · rcases List.mem_append.1 hx' with k | k
    · rw [vrow_of_get (hgS x k)]; exact h.st.one x k
    · rw [List.mem_singleton.1 k]; exact hone
  · rw [List.pairwise_append]
    refine ⟨(h.st.same hgS).pw, by simp, fun x hx' y hy => ?_⟩
    rw [List.mem_singleton.1 hy]
    obtain ⟨j, hj, rfl⟩ := List.getElem_of_mem hx'
    rw [hrow]
    show GF.mul _ (vrow q.1 e S[j].2) = _
    rw [C.clear j hj hj, GF.mul_zero]
  · rw [List.map_append, List.nodup_append]
    exact ⟨h.st.nd, by simp, fun x hx' y hy e2 => by
      have : y = e := by simpa using hy
      rw [e2, this] at hx'
      exact hne hx'⟩
  · rcases List.mem_append.1 hx' with k | k
    · exact h.liv x k
    · rw [List.mem_singleton.1 k]; exact hL
  · by_cases e2 : i = e
    · subst e2
      rw [hrow, hs2]
      exact ((h.inn i hi).add (h.span_st hs1)).smul _
    · rw [vrow_of_get (hget i e2)]; exact h.inn i hi
  · obtain ⟨X, k1, k2⟩ := C.app
    have h1 := h.few
    have h2 := h.st.few
    have h3 : (takP q e a).2.length ≤ q.2.length + 1 := by
      unfold takP sclP
      split
      · omega
      · simp
    have h4 : q.2.length = p.2.length + X.length := by rw [k1, List.length_append]
    have h5 : (S ++ [(e, a)]).length = S.length + 1 := by simp
    omega
  · -- the equation itself is spanned by the steps
    have m1 : Span (stV (takP q e a).1 (S ++ [(e, a)])) (vrow q.1 e) := by
      have k := (Span.mem (l := stV (takP q e a).1 (S ++ [(e, a)])) (s := vrow (takP q e a).1 e) (List.mem_map.2 ⟨(e, a), by simp, rfl⟩)).smul (gf _ hx)
      rw [hrow, V.smul_smul] at k
      have e3 : GF.mul (gf (at2 q.1 e a) hx) (gf _ hil) = GF.one := GF.ext (invN_mul hx hz)
      rw [e3, V.one_smul] at k
      exact k
    have m2 : Span (stV (takP q e a).1 (S ++ [(e, a)])) s := Span.le (fun x hx' => by
      obtain ⟨y, hy, rfl⟩ := List.mem_map.1 hx'
      exact Span.mem (List.mem_map.2 ⟨y, List.mem_append_left _ hy, vrow_of_get (hgS y hy)⟩)) hs1
    have e4 : vrow p.1 e = V.add (vrow q.1 e) s := by rw [hs2, V.add_assoc, V.add_self, V.add_zero]
    rw [e4]
    exact m1.add m2
/-- What steps span, steps behind span too. -/
theorem span_more {M M' : Rws} {S : List (Nat × Nat)} {x : Nat × Nat} (hg : ∀ s ∈ S, M'.getD s.1 [] = M.getD s.1 []) {v : V} (h : Span (stV M S) v) : Span (stV M' (S ++ [x])) v :=
  Span.le (fun y hy => by
    obtain ⟨s, hs, rfl⟩ := List.mem_map.1 hy
    exact Span.mem (List.mem_map.2 ⟨s, List.mem_append_left _ hs, vrow_of_get (hg s hs)⟩)) h
end Go.Proofs.Ytacncbojplmcjaa
end
