/-
  A disk in memory: what its blocks hold, by the plain account; what it leaves to others.
  What Remove, Rename and Flush do to a disk.
  What Rename, Flush, Sync and Read do to a disk.
  What Flush, Read and Create do to a disk.
  Lists of bytes in memory: one that came in, one that a call fills.
-/
import Derived.Test.YtfgaohilpbocbaaGreatDoorMl3
import Derived.Test.YtfgaohilpbocbaaGreatDoorRows
import Derived.WalkKit
import Derived.ProofKit
import Derived.OpenShut
import Derived.Below
import Derived.WalkSpells
import Derived.WalkLawsBesides
import Derived.Outline
import Derived.Deep.QuietTactic
import Derived.BigQuiet
import Derived.Lib.Hide
import Derived.Laws.BitsAllLaws
import Derived.Lib.SmallJoins
import Derived.Deep.WholeRow
import Derived.Deep.OwnRows
import Derived.Laws.BytesArg
import Derived.LaidMore
import Derived.Stop.Joined
import Derived.SizedLaws
import Derived.ChangeOld
section
namespace Go.Proofs.YtfgaohilpbocbaaGreatDoor
open Go.ChangeShapes Go.WideShapes Go.ChangeAt Go.RowKit Go.Joins
set_option linter.unusedVariables false

def upd {α : Type} (f : Nat → α) (i : Nat) (x : α) : Nat → α := fun j => if j = i then x else f j
theorem upd_same {α : Type} (f : Nat → α) (i : Nat) (x : α) : upd f i x i = x := if_pos rfl
theorem upd_other {α : Type} (f : Nat → α) {i j : Nat} (x : α) (h : j ≠ i) : upd f i x j = f j := if_neg h

/-- Where a disk's parts lie. -/
structure Gh where
  nm : Option Nat
  sf : Option Nat
  wa : Option Addr
  wc : Nat
  l : List (Value × Chg)
  ι : Nat → Option Nat
  rb : Nat → Option Nat
  nn : Nat
  ns : Nat
def Gh.on (g : Gh) (d : Dk) : Dk := { d with nm := g.nm, sf := g.sf, wa := g.wa, wl := g.l.length, wc := g.wc }
def Gh.row (g : Gh) : Option Nat := (Value.slice g.wa g.l.length g.wc).ownBlock
structure Rep (w : World) (B : Nat) (S : DSt) (g : Gh) : Prop where
  at' : DkAt w B (g.on S.d)
  l : g.l.map Prod.snd = S.l
  wts : Wts g.ι w g.wa g.l.length g.wc g.l
  wcap : g.wc ≤ maxLen ∧ g.l.length ≤ g.wc
  nm : Tab g.ι w g.nm g.nn S.Dn
  sf : Tab g.ι w g.sf g.ns S.Ds
  nil : g.nm = none ↔ g.sf = none
  apart : g.nm ≠ none → g.nm ≠ g.sf
  nil0 : g.sf = none → g.l.length = 0
  files : Files g.ι g.rb S.F w
  inj : ∀ b b' i, g.ι b = some i → g.ι b' = some i → b = b'
  injr : ∀ b b' i j r, g.ι b = some i → g.ι b' = some j → g.rb i = some r → g.rb j = some r → i = j
  lt : ∀ b i, g.ι b = some i → i < S.next
  nn : g.nn ≤ S.steps
  ns : g.ns + g.l.length ≤ S.steps
/-- The blocks of a disk. -/
def Foot (B : Nat) (g : Gh) (k : Nat) : Prop := k = B ∨ g.nm = some k ∨ g.sf = some k ∨ g.row = some k ∨ (∃ i, g.ι k = some i) ∨ ∃ b i, g.ι b = some i ∧ g.rb i = some k

theorem Tab.block {ι : Nat → Option Nat} {w : World} {t : Option Nat} {n : Nat} {D : DM} (h : Tab ι w t n D) {b : Nat} (hb : t = some b) : ∃ es clock, w.heap[b]? = some (.map es clock) := by
  rcases h with ⟨h1, _⟩ | ⟨b', h1, es, clock, h2, _⟩
  · rw [h1] at hb; cases hb
  · rw [h1] at hb; cases hb
    exact ⟨es, clock, h2⟩
theorem wts_block {ι : Nat → Option Nat} {w : World} {a : Option Addr} {len cap : Nat} {l : List (Value × Chg)} (h : Wts ι w a len cap l) {b : Nat} (hb : (Value.slice a len cap).ownBlock = some b) : ∃ cur, w.heap[b]? = some (.cells cur 137 (0, 0)) := by
  rcases h.row.2 with ⟨h1, _⟩ | ⟨g, cap', cur, hv, _, hg, _⟩
  · rw [h1] at hb; cases hb
  · rw [hv] at hb
    have : g = b := Option.some.inj hb
    subst this
    exact ⟨cur, hg⟩
theorem FileAt.block {w : World} {b : Nat} {rb : Option Nat} {f : Fl} (h : FileAt w b rb f) : ∃ cs, w.heap[b]? = some (.cells cs 135 (0, 0)) := by
  obtain ⟨v, _, _, h⟩ := h.here
  exact ⟨_, h⟩
theorem FileAt.bytesBlock {w : World} {b : Nat} {rb : Option Nat} {f : Fl} (h : FileAt w b rb f) {r : Nat} (hr : rb = some r) : ∃ cs, w.heap[r]? = some (.cells cs 5 (0, 0)) := by
  obtain ⟨v, e, ho, _⟩ := h.here
  rcases ho.2 with ⟨h0, _⟩ | ⟨g, cap, cur, hv, _, hg, _⟩
  · rw [h0] at e
    rw [hr] at e
    cases e
  · subst hv
    have : g = r := Option.some.inj (show some g = some r by rw [← hr, ← e]; rfl)
    subst this
    exact ⟨cur, hg⟩
theorem FileAt.fr {w w' : World} {X : Nat → Prop} {b : Nat} {rb : Option Nat} {f : Fl} (h : FileAt w b rb f) (k : Fr X w w') (h1 : ¬ X b) (h2 : ∀ r, rb = some r → ¬ X r) : FileAt w' b rb f := by
  obtain ⟨f1, f2, f3, v, e, ho, hb⟩ := h
  refine ⟨f1, f2, f3, v, e, ⟨ho.1, ?_⟩, (k.block b (Array.getElem?_eq_some_iff.1 hb).1 h1).trans hb⟩
  rcases ho.2 with h0 | ⟨g, cap, cur, hv, hg0, hg, r⟩
  · exact .inl h0
  · subst hv
    exact .inr ⟨g, cap, cur, rfl, hg0, (k.block g (Array.getElem?_eq_some_iff.1 hg).1 (h2 g (by rw [← e]; rfl))).trans hg, r⟩
theorem blk_lt {w : World} {b : Nat} {o : Obj} (h : w.heap[b]? = some o) : b < w.heap.size := (Array.getElem?_eq_some_iff.1 h).1

theorem Rep.foot_lt {w : World} {B : Nat} {S : DSt} {g : Gh} (h : Rep w B S g) {k : Nat} (hk : Foot B g k) : k < w.heap.size := by
  rcases hk with rfl | hk | hk | hk | ⟨i, hk⟩ | ⟨b, i, hb, hk⟩
  · exact h.at'.lt
  · obtain ⟨_, _, hb⟩ := h.nm.block hk; exact blk_lt hb
  · obtain ⟨_, _, hb⟩ := h.sf.block hk; exact blk_lt hb
  · obtain ⟨_, hb⟩ := wts_block h.wts hk; exact blk_lt hb
  · obtain ⟨_, hb⟩ := (h.files k i hk).block; exact blk_lt hb
  · obtain ⟨_, hb⟩ := (h.files b i hb).bytesBlock hk; exact blk_lt hb

theorem Rep.fr {w w' : World} {X : Nat → Prop} {B : Nat} {S : DSt} {g : Gh} (h : Rep w B S g) (k : Fr X w w') (hx : ∀ b, Foot B g b → ¬ X b) : Rep w' B S g :=
  ⟨h.at'.fr k (hx B (.inl rfl)), h.l, h.wts.fr k (fun p hp => hx p.block (.inr (.inr (.inr (.inl (by unfold Gh.row; rw [hp]; rfl)))))), h.wcap,
    h.nm.fr k (fun b hb => hx b (.inr (.inl hb))), h.sf.fr k (fun b hb => hx b (.inr (.inr (.inl hb)))), h.nil, h.apart, h.nil0,
    fun b i hi => (h.files b i hi).fr k (hx b (.inr (.inr (.inr (.inr (.inl ⟨i, hi⟩)))))) (fun r hr => hx r (.inr (.inr (.inr (.inr (.inr ⟨b, i, hi, hr⟩)))))),
    h.inj, h.injr, h.lt, h.nn, h.ns⟩
theorem Rep.later {w w' : World} {B : Nat} {S : DSt} {g : Gh} (h : Rep w B S g) (k : Below w.heap.size w w') : Rep w' B S g := h.fr (X := fun _ => False) (Fr.of_below k) (fun _ _ h => h)

/-- What an act has done: the disk is as the account says, and nothing but its blocks has turned. -/
def Did (B : Nat) (S' : DSt) (g : Gh) (w w' : World) : Prop := ∃ g', Rep w' B S' g' ∧ Fr (Foot B g) w w' ∧ ∀ k, Foot B g' k → Foot B g k ∨ w.heap.size ≤ k
theorem Rep.did {w : World} {B : Nat} {S : DSt} {g : Gh} (h : Rep w B S g) : Did B S g w w := ⟨g, h, Fr.refl _ _, fun _ h => .inl h⟩

/-- The disk's own numbers have turned. -/
theorem Rep.core {w w' : World} {B : Nat} {S : DSt} {g : Gh} (h : Rep w B S g) {d : Dk} (hd : DkAt w' B (g.on d)) (o : Only B w w') : Rep w' B { S with d := d } g := by
  have k : Fr (fun k => k = B) w w' := Fr.of_only o rfl
  have hB := h.at'.blk
  refine ⟨hd, h.l, h.wts.fr k (fun p hp e => ?_), h.wcap, h.nm.fr k (fun b hb e => ?_), h.sf.fr k (fun b hb e => ?_), h.nil, h.apart, h.nil0, fun b i hi => (h.files b i hi).fr k (fun e => ?_) (fun r hr e => ?_), h.inj, h.injr, h.lt, h.nn, h.ns⟩
  · obtain ⟨cur, hb⟩ := wts_block h.wts (b := p.block) (by rw [hp]; rfl)
    rw [e, hB] at hb; cases hb
  · obtain ⟨_, _, hb⟩ := h.nm.block hb
    rw [e, hB] at hb; cases hb
  · obtain ⟨_, _, hb⟩ := h.sf.block hb
    rw [e, hB] at hb; cases hb
  · obtain ⟨_, hb⟩ := (h.files b i hi).block
    rw [e, hB] at hb; cases hb
  · obtain ⟨_, hb⟩ := (h.files b i hi).bytesBlock hr
    rw [e, hB] at hb; cases hb
theorem Rep.core_did {w w' : World} {B : Nat} {S : DSt} {g : Gh} (h : Rep w B S g) {d : Dk} (hd : DkAt w' B (g.on d)) (o : Only B w w') : Did B { S with d := d } g w w' :=
  ⟨g, h.core hd o, Fr.of_only o (.inl rfl), fun _ h => .inl h⟩
theorem passD_on (g : Gh) (d : Dk) : passD (g.on d) = ((passD d).1, g.on (passD d).2) := by
  unfold passD Gh.on
  simp only
  split
  · rfl
  · split <;> rfl

/-- A file has turned, or its bytes lie elsewhere. -/
theorem Rep.file {w w' : World} {B : Nat} {S : DSt} {g : Gh} (h : Rep w B S g) {b i : Nat} (hi : g.ι b = some i) {r' : Option Nat} {f' : Fl} (hf : FileAt w' b r' f') (hr : ∀ k, r' = some k → g.rb i = some k ∨ w.heap.size ≤ k)
    (k : Fr (fun k => k = b ∨ g.rb i = some k) w w') : Rep w' B { S with F := upd S.F i f' } { g with rb := upd g.rb i r' } ∧ ∀ j, Foot B { g with rb := upd g.rb i r' } j → Foot B g j ∨ w.heap.size ≤ j := by
  obtain ⟨cf, hbf⟩ := (h.files b i hi).block
  have hbr : ∀ r, g.rb i = some r → ∃ cs, w.heap[r]? = some (.cells cs 5 (0, 0)) := fun r hr => (h.files b i hi).bytesBlock hr
  have hno : ∀ {j : Nat} {o : Obj}, w.heap[j]? = some o → (∀ cs t fz, o = .cells cs t fz → t ≠ 135 ∧ t ≠ 5) → ¬ (j = b ∨ g.rb i = some j) := fun {j o} ho hn e => by
    rcases e with rfl | e
    · rw [hbf] at ho; exact (hn _ _ _ (Option.some.inj ho).symm).1 rfl
    · obtain ⟨cs, hr2⟩ := hbr _ e
      rw [hr2] at ho; exact (hn _ _ _ (Option.some.inj ho).symm).2 rfl
  refine ⟨⟨h.at'.fr k (hno h.at'.blk fun cs t fz e => by cases e; decide), h.l, h.wts.fr k (fun p hp => ?_), h.wcap, h.nm.fr k (fun b' hb => ?_), h.sf.fr k (fun b' hb => ?_), h.nil, h.apart, h.nil0, fun b' i' hi' => ?_, h.inj, fun b1 b2 i1 i2 r h1 h2 h3 h4 => ?_, h.lt, h.nn, h.ns⟩, fun j hj => ?_⟩
  · obtain ⟨cur, hb⟩ := wts_block h.wts (b := p.block) (by rw [hp]; rfl)
    exact hno hb fun cs t fz e => by cases e; decide
  · obtain ⟨_, _, hb⟩ := h.nm.block hb
    exact hno hb fun cs t fz e => by cases e
  · obtain ⟨_, _, hb⟩ := h.sf.block hb
    exact hno hb fun cs t fz e => by cases e
  · by_cases e : i' = i
    · subst e
      obtain rfl := h.inj _ _ _ hi hi'
      show FileAt w' b (upd g.rb i' r' i') (upd S.F i' f' i')
      rw [upd_same, upd_same]
      exact hf
    · show FileAt w' b' (upd g.rb i r' i') (upd S.F i f' i')
      rw [upd_other _ _ e, upd_other _ _ e]
      refine (h.files b' i' hi').fr k (fun e2 => ?_) (fun r hr2 e2 => ?_)
      · rcases e2 with rfl | e2
        · rw [hi] at hi'
          exact e (Option.some.inj hi').symm
        · obtain ⟨_, h1⟩ := (h.files b' i' hi').block
          obtain ⟨_, h2⟩ := hbr _ e2
          rw [h1] at h2; cases h2
      · rcases e2 with rfl | e2
        · obtain ⟨_, h1⟩ := (h.files b' i' hi').bytesBlock hr2
          rw [hbf] at h1; cases h1
        · exact e (h.injr _ _ _ _ _ hi' hi hr2 e2)
  · have hnew : ∀ b' j r, g.ι b' = some j → j ≠ i → g.rb j = some r → r' = some r → False := fun b' j r hj hne h5 h6 => by
      rcases hr r h6 with h7 | h7
      · exact hne (h.injr _ _ _ _ _ hj hi h5 h7)
      · obtain ⟨_, h8⟩ := (h.files b' j hj).bytesBlock h5
        have := blk_lt h8
        omega
    have h3 : upd g.rb i r' i1 = some r := h3
    have h4 : upd g.rb i r' i2 = some r := h4
    by_cases e1 : i1 = i <;> by_cases e2 : i2 = i
    · rw [e1, e2]
    · subst e1
      rw [upd_same] at h3
      rw [upd_other _ _ e2] at h4
      exact (hnew _ _ _ h2 e2 h4 h3).elim
    · subst e2
      rw [upd_same] at h4
      rw [upd_other _ _ e1] at h3
      exact (hnew _ _ _ h1 e1 h3 h4).elim
    · rw [upd_other _ _ e1] at h3
      rw [upd_other _ _ e2] at h4
      exact h.injr _ _ _ _ _ h1 h2 h3 h4
  · rcases hj with h1 | h1 | h1 | h1 | h1 | ⟨b', i', h1, h2⟩
    · exact .inl (.inl h1)
    · exact .inl (.inr (.inl h1))
    · exact .inl (.inr (.inr (.inl h1)))
    · exact .inl (.inr (.inr (.inr (.inl h1))))
    · exact .inl (.inr (.inr (.inr (.inr (.inl h1)))))
    · have h2 : upd g.rb i r' i' = some j := h2
      by_cases e : i' = i
      · subst e
        rw [upd_same] at h2
        rcases hr j h2 with h3 | h3
        · exact .inl (.inr (.inr (.inr (.inr (.inr ⟨b, _, hi, h3⟩)))))
        · exact .inr h3
      · rw [upd_other _ _ e] at h2
        exact .inl (.inr (.inr (.inr (.inr (.inr ⟨b', i', h1, h2⟩)))))

/-! Files more. -/
theorem fileR_mono {ι ι' : Nat → Option Nat} (hm : ∀ b i, ι b = some i → ι' b = some i) {v : Value} {z : DM × List MemPlace} (h : fileR ι v = some z) : fileR ι' v = some z := by
  rcases fileR_inv h with ⟨rfl, rfl⟩ | ⟨b, i, rfl, hi, rfl⟩
  · rfl
  · simp [fileR, hm b i hi]
theorem own_mono {ι ι' : Nat → Option Nat} (hm : ∀ b i, ι b = some i → ι' b = some i) {w : World} {b n : Nat} {D : DM} (h : w.ownsMap Tryz.prog 9 (fileR ι) b n D) : w.ownsMap Tryz.prog 9 (fileR ι') b n D := by
  obtain ⟨es, clock, hb, F, hn, rfl⟩ := h
  exact (World.ownsMap_of_fit hb F (fun x _ z hz => fileR_mono hm hz)).mono hn
theorem Tab.mono {ι ι' : Nat → Option Nat} (hm : ∀ b i, ι b = some i → ι' b = some i) {w : World} {t : Option Nat} {n : Nat} {D : DM} (h : Tab ι w t n D) : Tab ι' w t n D := by
  rcases h with h | ⟨b, h1, h2⟩
  · exact .inl h
  · exact .inr ⟨b, h1, own_mono hm h2⟩
theorem wts_mono {ι ι' : Nat → Option Nat} (hm : ∀ b i, ι b = some i → ι' b = some i) {w : World} {a : Option Addr} {len cap : Nat} {l : List (Value × Chg)} (h : Wts ι w a len cap l) : Wts ι' w a len cap l :=
  ⟨h.row, h.len, fun x hx => fileR_mono hm (h.ptr x hx), h.src⟩
end Go.Proofs.YtfgaohilpbocbaaGreatDoor
end

section
namespace Go.Proofs.YtfgaohilpbocbaaGreatDoor
open Go.ChangeShapes Go.WideShapes Go.ChangeAt Go.RowKit Go.Joins
set_option linter.unusedVariables false

def turnS (c : Chg) (S : DSt) : DSt := { S with d := { S.d with used := useD S.d.used S.F S.Dn c }, l := S.l ++ [c], steps := S.steps + 1 }
theorem turnS_dn (c : Chg) (S : DSt) : (turnS c S).Dn = c.did S.Dn := by
  unfold DSt.Dn turnS didAll
  rw [List.foldl_append]; rfl
theorem Did.step {w w1 w2 : World} {B : Nat} {S : DSt} {g : Gh} (k : Fr (Foot B g) w w1) (h : Did B S g w1 w2) : Did B S g w w2 := by
  obtain ⟨g', h1, h2, h3⟩ := h
  exact ⟨g', h1, k.trans h2, fun j hj => (h3 j hj).imp id fun e => Nat.le_trans k.size e⟩

theorem turn_rep {w : World} {B : Nat} {S : DSt} {g : Gh} (h : Rep w B S g) (q : Option Addr) (c : Chg) (hp : fileR g.ι (.pointer q) = some (idD c.made, [])) (hc : c.src.size ≤ maxLen ∧ c.dst.size ≤ maxLen) (hst : S.steps ≤ 900) :
    Calls Tryz.prog 52 #[.pointer (some ⟨B, 0, none⟩), c.val (.pointer q)] w fun e w' => e = .returned (.tuple #[]) ∧ Did B (turnS c S) g w w' := by
  have hns := h.ns
  have hnn := h.nn
  refine (turn_any (x := g.on S.d) q c h.at' h.wts h.nm h.sf h.files h.nil h.apart hp hc (by show g.l.length ≤ 1000; omega) (by omega) h.wcap).mono ?_
  rintro e w' ⟨rfl, x', T, hu, hwl, hwc, hw, hro, hfr⟩
  refine ⟨rfl, { g with nm := x'.nm, sf := x'.sf, wa := x'.wa, wc := x'.wc, l := g.l ++ [(.pointer q, c)], nn := g.nn + 1 }, ?_, ?_, ?_⟩
  · obtain ⟨b1, n1, n2, n3⟩ := T.nm
    obtain ⟨b2, s1, s2, s3⟩ := T.sf
    have hx : x' = Gh.on { g with nm := x'.nm, sf := x'.sf, wa := x'.wa, wc := x'.wc, l := g.l ++ [(.pointer q, c)], nn := g.nn + 1 } (turnS c S).d := by
      have h1 := T.cap; have h2 := T.fs; have h3 := T.fl; have h4 := T.gs; have h5 := T.gl; have h6 := T.lost
      obtain ⟨a1, a2, a3, a4, a5, a6, a7, a8, a9, a10, a11, a12⟩ := x'
      simp only [Gh.on] at h1 h2 h3 h4 h5 h6 hu hwl ⊢
      simp only [turnS, Dk.mk.injEq, List.length_append, List.length_singleton]
      exact ⟨h1, hu, trivial, trivial, trivial, hwl, trivial, h2, h3, h4, h5, h6⟩
    have hl' : (g.l ++ [(Value.pointer q, c)]).length = x'.wl := by rw [hwl, List.length_append]; rfl
    have hfo := h.files.off h.at'.blk (by decide) (by decide)
    have hkeep : ∀ b i, g.ι b = some i → ¬ Mine B (g.on S.d) b ∧ ∀ r, g.rb i = some r → ¬ Mine B (g.on S.d) r := fun b i hi => by
      obtain ⟨_, h1⟩ := (h.files b i hi).block
      refine ⟨fun hm => ?_, fun r hr hm => ?_⟩
      · rcases hm with e | e | e
        · exact hfo.1 b i hi e
        · obtain ⟨_, _, h2⟩ := h.nm.block e
          rw [h1] at h2; cases h2
        · obtain ⟨_, h2⟩ := wts_block h.wts e
          rw [h1] at h2; cases h2
      · obtain ⟨_, h1⟩ := (h.files b i hi).bytesBlock hr
        rcases hm with e | e | e
        · exact hfo.2 b i hi r hr e
        · obtain ⟨_, _, h2⟩ := h.nm.block e
          rw [h1] at h2; cases h2
        · obtain ⟨_, h2⟩ := wts_block h.wts e
          rw [h1] at h2; cases h2
    refine ⟨hx ▸ T.at', ?_, ?_, ?_, ?_, ?_, ?_, fun _ => T.apart, ?_, h.files.fr hfr (fun b i hi => (hkeep b i hi).1) (fun b i hi => (hkeep b i hi).2), h.inj, h.injr, h.lt, ?_, ?_⟩
    · simp [turnS, h.l]
    · show Wts g.ι w' x'.wa (g.l ++ [(Value.pointer q, c)]).length x'.wc (g.l ++ [(Value.pointer q, c)])
      rw [hl']; exact hw
    · show x'.wc ≤ maxLen ∧ (g.l ++ [(Value.pointer q, c)]).length ≤ x'.wc
      rw [hl']; exact hwc
    · show Tab g.ι w' x'.nm (g.nn + 1) (turnS c S).Dn
      rw [turnS_dn]
      exact .inr ⟨b1, n1, n3⟩
    · exact .inr ⟨b2, s1, s3⟩
    · show x'.nm = none ↔ x'.sf = none
      rw [n1, s1]; simp
    · show x'.sf = none → _
      rw [s1]; intro e; cases e
    · show g.nn + 1 ≤ S.steps + 1; omega
    · show g.ns + (g.l ++ [(Value.pointer q, c)]).length ≤ S.steps + 1
      rw [List.length_append]
      simp
      omega
  · exact hfr.mono fun k _ hk => by
      rcases hk with e | e | e
      · exact .inl e
      · exact .inr (.inl e)
      · exact .inr (.inr (.inr (.inl e)))
  · intro k hk
    obtain ⟨b1, n1, n2, n3⟩ := T.nm
    obtain ⟨b2, s1, s2, s3⟩ := T.sf
    rcases hk with e | e | e | e | e | e
    · exact .inl (.inl e)
    · have e : x'.nm = some k := e
      rw [n1] at e; cases e
      rcases n2 with h1 | h1
      · exact .inl (.inr (.inl h1))
      · exact .inr h1
    · have e : x'.sf = some k := e
      rw [s1] at e; cases e
      rcases s2 with h1 | h1
      · exact .inl (.inr (.inr (.inl h1)))
      · exact .inr h1
    · have e : (Value.slice x'.wa (g.l ++ [(Value.pointer q, c)]).length x'.wc).ownBlock = some k := e
      rw [show (g.l ++ [(Value.pointer q, c)]).length = x'.wl by rw [hwl, List.length_append]; rfl] at e
      rcases hro k e with h1 | h1
      · exact .inl (.inr (.inr (.inr (.inl h1))))
      · exact .inr h1
    · exact .inl (.inr (.inr (.inr (.inr (.inl e)))))
    · exact .inl (.inr (.inr (.inr (.inr (.inr e)))))

def passS (S : DSt) : DSt := { S with d := (passD S.d).2 }
theorem pass_rep {w : World} {B : Nat} {S : DSt} {g : Gh} (h : Rep w B S g) :
    Calls Tryz.prog 51 #[.pointer (some ⟨B, 0, none⟩)] w fun e w' => e = .returned (.int .i64 (passD S.d).1) ∧ Rep w' B (passS S) g ∧ Only B w w' := by
  refine (pass_any h.at').mono ?_
  rintro e w' ⟨rfl, h1, h2⟩
  rw [passD_on] at h1
  rw [passD_on]
  exact ⟨rfl, h.core h1 h2, h2⟩
theorem power_rep {w : World} {B : Nat} {S : DSt} {g : Gh} (h : Rep w B S g) :
    Calls Tryz.prog 49 #[.pointer (some ⟨B, 0, none⟩)] w fun e w' => e = .returned (.int .i64 (if S.d.lost then 6 else 0)) ∧ w = w' := power_any (x := g.on S.d) h.at'

def removeS (s : ByteArray) (S : DSt) : Int × DSt :=
  if S.d.lost then (6, S) else if numD S.Dn s = -1 then (7, S) else if (passD S.d).1 = 0 then (0, turnS ⟨-1, s, ⟨#[]⟩⟩ (passS S)) else ((passD S.d).1, passS S)

theorem eqp_none (w : World) : (binOp BinOp.eql 132 (.pointer none) (.pointer none)).run Tryz.prog w = .ok (.bool true) w := by kernel_rfl
theorem eqp_some (b : Nat) (w : World) : (binOp BinOp.eql 132 (.pointer (some ⟨b, 0, none⟩)) (.pointer none)).run Tryz.prog w = .ok (.bool false) w := by kernel_rfl
theorem nep_none (w : World) : (binOp BinOp.neq 132 (.pointer none) (.pointer none)).run Tryz.prog w = .ok (.bool false) w := by kernel_rfl
theorem nep_some (b : Nat) (w : World) : (binOp BinOp.neq 132 (.pointer (some ⟨b, 0, none⟩)) (.pointer none)).run Tryz.prog w = .ok (.bool true) w := by kernel_rfl

end Go.Proofs.YtfgaohilpbocbaaGreatDoor
end

section
namespace Go.Proofs.YtfgaohilpbocbaaGreatDoor
open Go.ChangeShapes Go.WideShapes Go.ChangeAt Go.RowKit Go.Joins
set_option linter.unusedVariables false

def renameS (s t : ByteArray) (S : DSt) : Int × DSt :=
  if S.d.lost then (6, S) else if rightB t = false ∨ s = t then (1, S) else if numD S.Dn s = -1 then (7, S) else if (passD S.d).1 = 0 then (0, turnS ⟨-1, s, t⟩ (passS S)) else ((passD S.d).1, passS S)

/-! Sync. -/
def syncF (f : Fl) : Fl := { f with safe := f.bytes.length }
def syncS (s : ByteArray) (S : DSt) : Int × DSt :=
  if S.d.lost then (6, S) else if numD S.Dn s = -1 then (7, S) else if (passD S.d).1 = 0 then (0, { passS S with F := upd S.F (numD S.Dn s).toNat (syncF (S.F (numD S.Dn s).toNat)) }) else ((passD S.d).1, passS S)

/-- A file's safe bytes are told anew. -/
theorem Rep.safe {w : World} {B : Nat} {S : DSt} {g : Gh} (h : Rep w B S g) {b i : Nat} (hi : g.ι b = some i) (n : Nat) (hn : n ≤ (S.F i).bytes.length) :
    Did B { S with F := upd S.F i { S.F i with safe := n } } g w (w.setCell ⟨b, 1, none⟩ (.int .i64 (n : Int))) := by
  have hf := h.files b i hi
  obtain ⟨f1, f2, f3, v, e, ho, hb⟩ := hf
  have k : Fr (fun k => k = b ∨ g.rb i = some k) w (w.setCell ⟨b, 1, none⟩ (.int .i64 (n : Int))) := (Fr.refl _ w).set (fun _ => .inl rfl) _
  have hf' : FileAt (w.setCell ⟨b, 1, none⟩ (.int .i64 (n : Int))) b (g.rb i) { S.F i with safe := n } := by
    refine ⟨f1, f2, hn, v, e, ⟨ho.1, ?_⟩, ?_⟩
    · rcases ho.2 with h0 | ⟨r, cap, cur, hv, hg0, hg, rr⟩
      · exact .inl h0
      · refine .inr ⟨r, cap, cur, hv, hg0, ?_, rr⟩
        rw [heap_setCell_other _ _ _ _ (by show r ≠ b; intro e2; subst e2; rw [hb] at hg; cases hg)]
        exact hg
    · rw [heap_setCell_same w b 1 _ _ _ hb]; rfl
  obtain ⟨h1, h2⟩ := h.file hi hf' (fun k hk => .inl hk) k
  exact ⟨_, h1, k.mono fun j _ hj => by
    rcases hj with rfl | hj
    · exact .inr (.inr (.inr (.inr (.inl ⟨i, hi⟩))))
    · exact .inr (.inr (.inr (.inr (.inr ⟨b, i, hi, hj⟩)))), h2⟩

end Go.Proofs.YtfgaohilpbocbaaGreatDoor
end

section
namespace Go.Proofs.YtfgaohilpbocbaaGreatDoor
open Go.ChangeShapes Go.WideShapes Go.ChangeAt Go.RowKit Go.Joins
set_option linter.unusedVariables false

/-- A disk whose names are told elsewhere. -/
structure Semi (w : World) (B : Nat) (S : DSt) (g : Gh) : Prop where
  at' : DkAt w B (g.on S.d)
  l : g.l.map Prod.snd = S.l
  wts : Wts g.ι w g.wa g.l.length g.wc g.l
  wcap : g.wc ≤ maxLen ∧ g.l.length ≤ g.wc
  sf : Tab g.ι w g.sf g.ns S.Ds
  nil0 : g.sf = none → g.l.length = 0
  files : Files g.ι g.rb S.F w
  inj : ∀ b b' i, g.ι b = some i → g.ι b' = some i → b = b'
  injr : ∀ b b' i j r, g.ι b = some i → g.ι b' = some j → g.rb i = some r → g.rb j = some r → i = j
  lt : ∀ b i, g.ι b = some i → i < S.next
  ns : g.ns + g.l.length ≤ S.steps

def settleS (N : Nat) (S : DSt) : DSt := { S with Ds := didAll S.Ds (S.l.take N), l := [] }
def settleG (N : Nat) (g : Gh) : Gh := { g with wa := none, wc := 0, l := [], ns := g.ns + N }

def flushS (S : DSt) : Int × DSt :=
  if S.d.lost then (6, S) else if (passD S.d).1 = 0 then (0, settleS S.l.length (passS S)) else ((passD S.d).1, passS S)

theorem flush_rep {w w' : World} {B : Nat} {S : DSt} {g : Gh} (h : Rep w B S g) (hs : Semi w' B (settleS S.l.length S) (settleG S.l.length g)) (hn : Tab g.ι w' g.nm g.nn S.Dn) : Rep w' B (settleS S.l.length S) (settleG S.l.length g) := by
  refine ⟨hs.at', hs.l, hs.wts, hs.wcap, ?_, hs.sf, h.nil, h.apart, hs.nil0, hs.files, hs.inj, hs.injr, hs.lt, h.nn, hs.ns⟩
  have : (settleS S.l.length S).Dn = S.Dn := by
    show didAll (didAll S.Ds (S.l.take S.l.length)) [] = didAll S.Ds S.l
    rw [List.take_length]; rfl
  rw [this]
  exact hn
theorem settleG_foot {B N : Nat} {g : Gh} {k : Nat} (h : Foot B (settleG N g) k) : Foot B g k := by
  rcases h with e | e | e | e | e | e
  · exact .inl e
  · exact .inr (.inl e)
  · exact .inr (.inr (.inl e))
  · cases e
  · exact .inr (.inr (.inr (.inr (.inl e))))
  · exact .inr (.inr (.inr (.inr (.inr e))))

/-! Create. -/
def newS (S : DSt) : DSt := { S with F := upd S.F S.next ⟨[], 0⟩, next := S.next + 1 }
def newG (w : World) (S : DSt) (g : Gh) : Gh := { g with ι := upd g.ι w.heap.size (some S.next), rb := upd g.rb S.next none }
theorem newG_mono {w : World} {B : Nat} {S : DSt} {g : Gh} (h : Rep w B S g) : ∀ b i, g.ι b = some i → (newG w S g).ι b = some i := fun b i hi => by
  have := h.foot_lt (k := b) (.inr (.inr (.inr (.inr (.inl ⟨i, hi⟩)))))
  show upd g.ι w.heap.size (some S.next) b = some i
  rw [upd_other _ _ (by omega)]; exact hi
theorem newG_inv {w : World} {S : DSt} {g : Gh} {b i : Nat} (h : (newG w S g).ι b = some i) : (b = w.heap.size ∧ i = S.next) ∨ g.ι b = some i := by
  have h : upd g.ι w.heap.size (some S.next) b = some i := h
  by_cases e : b = w.heap.size
  · subst e
    rw [upd_same] at h
    exact .inl ⟨rfl, (Option.some.inj h).symm⟩
  · rw [upd_other _ _ e] at h
    exact .inr h
theorem Rep.newFile {w : World} {B : Nat} {S : DSt} {g : Gh} (h : Rep w B S g) :
    Rep (w.alloc (.cells #[.slice none 0 0, .int .i64 0] 135)) B (newS S) (newG w S g) ∧ ∀ k, Foot B (newG w S g) k → Foot B g k ∨ w.heap.size ≤ k := by
  have hL := h.later ((Below.refl w.heap.size w).alloc (Nat.le_refl _) (.cells #[.slice none 0 0, .int .i64 0] 135))
  have hm := newG_mono h
  refine ⟨⟨hL.at', hL.l, wts_mono hm hL.wts, hL.wcap, hL.nm.mono hm, hL.sf.mono hm, hL.nil, hL.apart, hL.nil0, fun b i hi => ?_, fun b b' i h1 h2 => ?_, fun b b' i j r h1 h2 h3 h4 => ?_, fun b i hi => ?_, hL.nn, hL.ns⟩, fun k hk => ?_⟩
  · rcases newG_inv hi with ⟨rfl, rfl⟩ | hi
    · show FileAt _ _ (upd g.rb S.next none S.next) (upd S.F S.next ⟨[], 0⟩ S.next)
      rw [upd_same, upd_same]
      exact ⟨fun n hn => (by cases hn), Nat.zero_le _, Nat.le_refl _, .slice none 0 0, rfl, World.ownsRow_nil _ _ _ _, heap_alloc_new w _⟩
    · have := h.lt b i hi
      show FileAt _ _ (upd g.rb S.next none i) (upd S.F S.next ⟨[], 0⟩ i)
      rw [upd_other _ _ (by omega), upd_other _ _ (by omega)]
      exact hL.files b i hi
  · rcases newG_inv h1 with ⟨rfl, rfl⟩ | k1 <;> rcases newG_inv h2 with ⟨rfl, e⟩ | k2
    · rfl
    · have := h.lt _ _ k2; omega
    · have := h.lt _ _ k1; omega
    · exact h.inj _ _ _ k1 k2
  · have h3 : upd g.rb S.next none i = some r := h3
    have h4 : upd g.rb S.next none j = some r := h4
    by_cases e1 : i = S.next
    · rw [e1, upd_same] at h3; cases h3
    by_cases e2 : j = S.next
    · rw [e2, upd_same] at h4; cases h4
    rw [upd_other _ _ e1] at h3
    rw [upd_other _ _ e2] at h4
    exact h.injr _ _ _ _ _ ((newG_inv h1).resolve_left fun e => e1 e.2) ((newG_inv h2).resolve_left fun e => e2 e.2) h3 h4
  · show i < S.next + 1
    rcases newG_inv hi with ⟨_, rfl⟩ | hi
    · omega
    · have := h.lt b i hi; omega
  · rcases hk with e | e | e | e | ⟨i, e⟩ | ⟨b, i, e1, e2⟩
    · exact .inl (.inl e)
    · exact .inl (.inr (.inl e))
    · exact .inl (.inr (.inr (.inl e)))
    · exact .inl (.inr (.inr (.inr (.inl e))))
    · rcases newG_inv e with ⟨rfl, _⟩ | e
      · exact .inr (Nat.le_refl _)
      · exact .inl (.inr (.inr (.inr (.inr (.inl ⟨i, e⟩)))))
    · have e2 : upd g.rb S.next none i = some k := e2
      by_cases e3 : i = S.next
      · rw [e3, upd_same] at e2; cases e2
      · rw [upd_other _ _ e3] at e2
        exact .inl (.inr (.inr (.inr (.inr (.inr ⟨b, i, (newG_inv e1).resolve_left fun e => e3 e.2, e2⟩)))))
theorem Did.via {w w1 w2 : World} {B : Nat} {S : DSt} {g g' : Gh} (k : Fr (Foot B g) w w1) (hf : ∀ j, Foot B g' j → Foot B g j ∨ w.heap.size ≤ j) (h : Did B S g' w1 w2) : Did B S g w w2 := by
  obtain ⟨g2, h1, h2, h3⟩ := h
  refine ⟨g2, h1, ⟨h2.os.trans k.os, h2.tape.trans k.tape, h2.output.trans k.output, Nat.le_trans k.size h2.size, fun j hj hn => ?_⟩, fun j hj => ?_⟩
  · rw [h2.block j (Nat.lt_of_lt_of_le hj k.size) (fun e => ?_)]
    · exact k.block j hj hn
    · rcases hf j e with e | e
      · exact hn e
      · omega
  · rcases h3 j hj with e | e
    · exact hf j e
    · exact .inr (Nat.le_trans k.size e)

def createS (s : ByteArray) (S : DSt) : Int × DSt :=
  if S.d.lost then (6, S) else if rightB s = false then (1, S) else if numD S.Dn s ≠ -1 then (8, S) else if (passD S.d).1 = 0 then (0, turnS ⟨(S.next : Int), ⟨#[]⟩, s⟩ (newS (passS S))) else ((passD S.d).1, passS S)

set_option maxRecDepth 100000 in
theorem create_any {w : World} {B : Nat} {S : DSt} {g : Gh} (s : ByteArray) (h : Rep w B S g) (hs : s.size ≤ maxLen) (hst : S.steps ≤ 900) :
    Calls Tryz.prog 23 #[.pointer (some ⟨B, 0, none⟩), .string s] w fun e w' => e = .returned (.int .i64 (createS s S).1) ∧ Did B (createS s S).2 g w w' := by
  have H := Lib.hid h
  have HS := Lib.hid hs
  have HST := Lib.hid hst
  have hp := power_rep h
  have c2 : w.cell? ⟨B, 2, none⟩ = some (.map g.nm) := by rw [h.at'.cell]; simp [Dk.cells, Gh.on]
  have hq := pass_rep h
  have hnum := h.nm.num hs
  have hg := fun w => right_any s (by unfold maxLen at hs; omega) w
  clear h hs hst
  cases hl : S.d.lost with
  | true =>
    have HV : Hid (createS s S = (6, S)) := by show _ = _; unfold createS; rw [if_pos hl]
    rw [hl] at hp
    simp only [if_true] at hp
    clear hl hq hnum
    go_enter Tryz.func23, Tryz.ntmps23
    go_wp2_with fail
    (with_reducible refine hp.mono ?_)
    rintro e w1 ⟨rfl, rfl⟩
    go_wp2_with fail
    go_ret
    rw [HV.out]
    exact ⟨rfl, H.out.did⟩
  | false =>
    rw [hl] at hp
    simp only [Bool.false_eq_true, if_false] at hp
    cases hrt : rightB s with
    | false =>
      have HV : Hid (createS s S = (1, S)) := by show _ = _; unfold createS; rw [if_neg (by simp [hl]), if_pos hrt]
      rw [hrt] at hg
      clear hl hq hnum hrt
      go_enter Tryz.func23, Tryz.ntmps23
      go_wp2_with fail
      (with_reducible refine hp.mono ?_)
      rintro e w1 ⟨rfl, rfl⟩
      clear hp
      go_wp2_with fail
      (with_reducible refine (hg _).mono ?_)
      rintro e w1 ⟨rfl, rfl⟩
      go_wp2_with fail
      go_ret
      rw [HV.out]
      exact ⟨rfl, H.out.did⟩
    | true =>
      rw [hrt] at hg
      have hor : ¬ rightB s = false := by rw [hrt]; simp
      rcases hnum with ⟨hn, hr⟩ | ⟨b, i, hi, hn, hr⟩
      · have heq := nep_none w
        have hnn : ¬ numD S.Dn s ≠ -1 := by rw [hn]; simp
        by_cases h0 : (passD S.d).1 = 0
        · have HV : Hid (createS s S = (0, turnS ⟨(S.next : Int), ⟨#[]⟩, s⟩ (newS (passS S)))) := by show _ = _; unfold createS; rw [if_neg (by simp [hl]), if_neg hor, if_neg hnn, if_pos h0]
          rw [h0] at hq
          clear hl hn hnn h0 hor hrt
          go_enter Tryz.func23, Tryz.ntmps23
          go_wp2_with fail
          (with_reducible refine hp.mono ?_)
          rintro e w1 ⟨rfl, rfl⟩
          clear hp
          go_wp2_with fail
          (with_reducible refine (hg _).mono ?_)
          rintro e w1 ⟨rfl, rfl⟩
          go_wp2_with fail
          (with_reducible refine hq.mono ?_)
          rintro e w1 ⟨rfl, h1, o1⟩
          obtain ⟨h2, hf2⟩ := h1.newFile
          have ht := turn_rep h2 (some ⟨w1.heap.size, 0, none⟩) ⟨(S.next : Int), ⟨#[]⟩, s⟩ (by simp [fileR, newG, upd_same]; rfl) ⟨Nat.zero_le _, HS.out⟩ HST.out
          unfold Chg.val at ht
          have HF : Hid (Fr (Foot B g) w (w1.alloc (.cells #[.slice none 0 0, .int .i64 0] 135)) ∧ ∀ j, Foot B (newG w1 (passS S) g) j → Foot B g j ∨ w.heap.size ≤ j) :=
            ⟨(Fr.of_only (X := Foot B g) o1 (.inl rfl)).later ((Below.refl _ _).alloc (Nat.le_refl _) _), fun j hj => (hf2 j hj).imp id fun e => by rw [o1.size] at e; exact e⟩
          clear h1 o1 c2 hr heq hq hg h2 hf2
          go_wp2_with fail
          (with_reducible refine ht.mono ?_)
          rintro e w2 ⟨rfl, d2⟩
          have D2 := Lib.hid (Did.via HF.out.1 HF.out.2 d2)
          clear d2 ht
          go_wp2_with fail
          go_ret
          rw [HV.out]
          exact ⟨rfl, D2.out⟩
        · have HV : Hid (createS s S = ((passD S.d).1, passS S)) := by show _ = _; unfold createS; rw [if_neg (by simp [hl]), if_neg hor, if_neg hnn, if_neg h0]
          have h0' : ((passD S.d).1 != 0) = true := by simpa using h0
          clear hl hn hnn hor hrt
          generalize (passD S.d).1 = e0 at *
          go_enter Tryz.func23, Tryz.ntmps23
          go_wp2_with fail
          (with_reducible refine hp.mono ?_)
          rintro e w1 ⟨rfl, rfl⟩
          clear hp
          go_wp2_with fail
          (with_reducible refine (hg _).mono ?_)
          rintro e w1 ⟨rfl, rfl⟩
          go_wp2_with fail
          (with_reducible refine hq.mono ?_)
          rintro e w1 ⟨rfl, h1, o1⟩
          have D1 : Hid (Did B (passS S) g w w1) := ⟨g, h1, Fr.of_only o1 (.inl rfl), fun _ h => .inl h⟩
          clear h1 o1
          go_wp2_with fail
          go_ret
          rw [HV.out]
          exact ⟨rfl, D1.out⟩
      · have hnn : numD S.Dn s ≠ -1 := by rw [hn]; omega
        have HV : Hid (createS s S = (8, S)) := by show _ = _; unfold createS; rw [if_neg (by simp [hl]), if_neg hor, if_pos hnn]
        have heq := nep_some b w
        clear hl hn hor hrt hnn hi
        go_enter Tryz.func23, Tryz.ntmps23
        go_wp2_with fail
        (with_reducible refine hp.mono ?_)
        rintro e w1 ⟨rfl, rfl⟩
        clear hp
        go_wp2_with fail
        (with_reducible refine (hg _).mono ?_)
        rintro e w1 ⟨rfl, rfl⟩
        go_wp2_with fail
        go_ret
        rw [HV.out]
        exact ⟨rfl, H.out.did⟩
end Go.Proofs.YtfgaohilpbocbaaGreatDoor
end

section
namespace Go.Proofs.YtfgaohilpbocbaaGreatDoor
open Go.ChangeShapes Go.WideShapes Go.ChangeAt Go.RowKit Go.Joins
set_option linter.unusedVariables false

/-- What a law's call ends with. -/
def TrueAnd (w : World) (e : Ending) (w' : World) : Prop := e = .returned (.bool true) ∧ Below w.heap.size w w'
theorem ret_bool {a b : Bool} (h : a = b) : Ending.returned (.bool a) = .returned (.bool b) := by rw [h]

def IsByte (l : List Nat) : Prop := ∀ n ∈ l, n < 256
/-- Cells from a place on hold these bytes. -/
def BytesIn (w : World) (b off : Nat) (l : List Nat) : Prop := ∀ i (h : i < l.length), w.cell? ⟨b, off + i, none⟩ = some (.int .u8 ((l[i] : Nat) : Int))
/-- A slice of bytes: nothing to read, or cells from a place on. -/
def BytesAt (w : World) (a : Option Addr) (l : List Nat) : Prop := l = [] ∨ ∃ b off, a = some ⟨b, off, none⟩ ∧ BytesIn w b off l

theorem BytesIn.below {w w' : World} {B b off : Nat} {l : List Nat} (h : BytesIn w b off l) (hB : w.heap.size ≤ B) (hb : Below B w w') : BytesIn w' b off l := fun i hi => by
  rw [hb.cell (p := ⟨b, off + i, none⟩) (Nat.lt_of_lt_of_le (World.block_lt_of_cell? w _ (h i hi)) hB)]; exact h i hi

theorem BytesAt.below {w w' : World} {B : Nat} {a : Option Addr} {l : List Nat} (h : BytesAt w a l) (hB : w.heap.size ≤ B) (hb : Below B w w') : BytesAt w' a l := by
  rcases h with h | ⟨b, off, e, h⟩
  · exact .inl h
  · exact .inr ⟨b, off, e, h.below hB hb⟩

/-- The slice '.slice a l.length cap' reads as l. -/
structure Sl (w : World) (a : Option Addr) (cap : Nat) (l : List Nat) : Prop where
  byte : IsByte l
  len : l.length ≤ cap
  most : cap ≤ maxLen
  none : a = none → l = [] ∧ cap = 0
  here : BytesAt w a l

theorem Sl.below {w w' : World} {a : Option Addr} {cap : Nat} {l : List Nat} (h : Sl w a cap l) (hb : Below w.heap.size w w') : Sl w' a cap l :=
  ⟨h.byte, h.len, h.most, h.none, h.here.below (Nat.le_refl _) hb⟩
theorem Sl.drewN {w : World} {a : Option Addr} {cap : Nat} {l : List Nat} (h : Sl w a cap l) (n : Nat) : Sl (w.drewN n) a cap l := ⟨h.byte, h.len, h.most, h.none, h.here⟩
theorem Sl.drew {w : World} {a : Option Addr} {cap : Nat} {l : List Nat} (h : Sl w a cap l) : Sl w.drew a cap l := ⟨h.byte, h.len, h.most, h.none, h.here⟩
theorem Sl.lt {w : World} {a : Option Addr} {cap : Nat} {l : List Nat} (h : Sl w a cap l) : l.length ≤ 9223372036854775807 := by
  have h1 := h.len
  have h2 := h.most
  unfold maxLen at h2
  omega
theorem Sl.some {w : World} {a : Option Addr} {cap : Nat} {l : List Nat} (h : Sl w a cap l) {k : Nat} (hk : k < l.length) : ∃ b off, a = some ⟨b, off, Option.none⟩ ∧ BytesIn w b off l := by
  rcases h.here with rfl | h
  · simp at hk
  · exact h
theorem nil_sl (w : World) : Sl w Option.none 0 [] := ⟨by simp [IsByte], by simp, by simp, fun _ => ⟨rfl, rfl⟩, .inl rfl⟩

/-- Block B is a row of n cells; the first k are as g says. -/
def Row (w : World) (B : Nat) (ty : TypeId) (n k : Nat) (g : Nat → Value) : Prop :=
  ∃ cs, w.heap[B]? = some (.cells cs ty (0, 0)) ∧ cs.size = n ∧ ∀ j, j < k → cs[j]? = some (g j)

theorem Row.cell {w : World} {B : Nat} {ty : TypeId} {n k : Nat} {g : Nat → Value} (h : Row w B ty n k g) (j : Nat) (hj : j < k) : w.cell? ⟨B, j, none⟩ = some (g j) := by
  obtain ⟨cs, h1, _, h3⟩ := h
  rw [cell_of_block h1]; exact h3 j hj

theorem Row.has {w : World} {B : Nat} {ty : TypeId} {n k : Nat} {g : Nat → Value} (h : Row w B ty n k g) (j : Nat) (hj : j < n) : ∃ v, w.cell? ⟨B, j, none⟩ = some v := by
  obtain ⟨cs, h1, h2, _⟩ := h
  exact ⟨cs[j], by rw [cell_of_block h1]; simp [h2, hj]⟩

theorem Row.loose {w : World} {B : Nat} {ty : TypeId} {n k : Nat} {g : Nat → Value} (h : Row w B ty n k g) (j : Nat) : w.frozen? ⟨B, j, none⟩ = false := by
  obtain ⟨cs, h1, _, _⟩ := h
  exact unfrozen_of_block h1 j

theorem Row.lt {w : World} {B : Nat} {ty : TypeId} {n k : Nat} {g : Nat → Value} (h : Row w B ty n k g) : B < w.heap.size := by
  obtain ⟨cs, h1, _, _⟩ := h
  exact (Array.getElem?_eq_some_iff.1 h1).1

theorem Row.set {w : World} {B : Nat} {ty : TypeId} {n k : Nat} {g : Nat → Value} (h : Row w B ty n k g) (hk : k < n) {v : Value} (hv : v = g k) : Row (w.setCell ⟨B, k, none⟩ v) B ty n (k + 1) g := by
  obtain ⟨cs, h1, h2, h3⟩ := h
  refine ⟨cs.setIfInBounds k v, block_setCell h1 v, by simp [h2], fun j hj => ?_⟩
  by_cases e : j = k
  · subst e; simp [h2, hk, hv]
  · rw [Array.getElem?_setIfInBounds_ne (by omega)]; exact h3 j (by omega)

/-- A cell of a row is written. -/
theorem Row.upd {w : World} {B : Nat} {ty : TypeId} {n m : Nat} {g : Nat → Value} (h : Row w B ty n m g) (k : Nat) (hk : k < n) (v : Value) : Row (w.setCell ⟨B, k, none⟩ v) B ty n m (fun j => if j = k then v else g j) := by
  obtain ⟨cs, h1, h2, h3⟩ := h
  refine ⟨cs.setIfInBounds k v, Joins.block_setCell h1 v, by simp [h2], fun j hj => ?_⟩
  by_cases e : j = k
  · subst e; simp [h2, hk]
  · rw [Array.getElem?_setIfInBounds_ne (by omega)]; simp only [e, if_false]; exact h3 j hj

/-- Another block is written. -/
theorem Row.other {w : World} {B C : Nat} {ty : TypeId} {n k i : Nat} {g : Nat → Value} {v : Value} (h : Row w B ty n k g) (hne : B ≠ C) : Row (w.setCell ⟨C, i, none⟩ v) B ty n k g := by
  obtain ⟨cs, h1, h2, h3⟩ := h
  exact ⟨cs, by rw [Below.heap_setCell _ _ _ _ hne]; exact h1, h2, h3⟩

theorem Row.below {w w' : World} {B C : Nat} {ty : TypeId} {n k : Nat} {g : Nat → Value} (h : Row w B ty n k g) (hb : Below C w w') (hC : B < C) : Row w' B ty n k g := by
  obtain ⟨cs, h1, h2, h3⟩ := h
  exact ⟨cs, by rw [hb.block _ hC]; exact h1, h2, h3⟩

theorem Row.drew {w : World} {B : Nat} {ty : TypeId} {n k : Nat} {g : Nat → Value} (h : Row w B ty n k g) (q : Nat) : Row (w.drewN q) B ty n k g := h

theorem Row.mono {w : World} {B : Nat} {ty : TypeId} {n k m : Nat} {g f : Nat → Value} (h : Row w B ty n k g) (hm : m ≤ k) (hf : ∀ j, j < m → g j = f j) : Row w B ty n m f := by
  obtain ⟨cs, h1, h2, h3⟩ := h
  exact ⟨cs, h1, h2, fun j hj => by rw [h3 j (by omega), hf j hj]⟩

/-- What a whole row holds. -/
def rowArr (n : Nat) (g : Nat → Value) : Array Value := ((List.range n).map g).toArray

theorem rowArr_size (n : Nat) (g : Nat → Value) : (rowArr n g).size = n := by simp [rowArr]

theorem Row.whole {w : World} {B : Nat} {ty : TypeId} {n : Nat} {g : Nat → Value} (h : Row w B ty n n g) : w.heap[B]? = some (.cells (rowArr n g) ty (0, 0)) := by
  obtain ⟨cs, h1, h2, h3⟩ := h
  have : cs = rowArr n g := by
    apply Array.ext_getElem?
    intro i
    by_cases hi : i < n
    · rw [h3 i hi]; simp [rowArr, hi]
    · simp [rowArr, h2, hi]
  rw [← this]; exact h1

theorem Row.of_whole {w : World} {B : Nat} {ty : TypeId} {n : Nat} {g : Nat → Value} (h : w.heap[B]? = some (.cells (rowArr n g) ty (0, 0))) : Row w B ty n n g :=
  ⟨_, h, rowArr_size n g, fun j hj => by simp [rowArr, hj]⟩

/-- A new block, nothing known of it but its length. -/
theorem Row.new (w : World) (cs : Array Value) (ty : TypeId) (g : Nat → Value) : Row (w.alloc (.cells cs ty)) w.heap.size ty cs.size 0 g :=
  ⟨cs, heap_alloc_last w _, rfl, fun j hj => by omega⟩

theorem Row.new' (w : World) (cs : Array Value) (ty : TypeId) (g : Nat → Value) (B n : Nat) (hB : B = w.heap.size) (hn : cs.size = n) : Row (w.alloc (.cells cs ty)) B ty n 0 g := by
  subst hB hn; exact Row.new w cs ty g

theorem Row.new_whole (w : World) (cs : Array Value) (ty : TypeId) (g : Nat → Value) (B n : Nat) (hB : B = w.heap.size) (hn : cs = rowArr n g) : Row (w.alloc (.cells cs ty)) B ty n n g := by
  subst hB hn; exact Row.of_whole (heap_alloc_last w _)

theorem Row.alloc {w : World} {B : Nat} {ty : TypeId} {n k : Nat} {g : Nat → Value} (h : Row w B ty n k g) (o : Obj) : Row (w.alloc o) B ty n k g := by
  have hlt := h.lt
  obtain ⟨cs, h1, h2, h3⟩ := h
  exact ⟨cs, by rw [Below.heap_alloc _ _ _ hlt]; exact h1, h2, h3⟩

/-- A whole row is written, in a block of the call's own. -/
theorem below_setRow {B g : Nat} {a w : World} (h : Below B a w) (hg : B ≤ g) (cs : Array Value) : Below B a (w.setRow g cs) :=
  h.trans ⟨setRow_os _ _ _, setRow_tape _ _ _, setRow_output _ _ _, by simp [World.setRow], fun k hk => setRow_other _ _ _ _ (by omega)⟩

theorem Row.whole_set {w : World} {B : Nat} {ty : TypeId} {n k : Nat} {g f : Nat → Value} (h : Row w B ty n k g) : Row (w.setRow B (rowArr n f)) B ty n n f := by
  obtain ⟨cs, h1, _, _⟩ := h
  exact Row.of_whole (setRow_heap _ _ _ _ _ _ h1)

theorem Row.setRow_other {w : World} {B C : Nat} {ty : TypeId} {n k : Nat} {g : Nat → Value} (h : Row w B ty n k g) (hne : B ≠ C) (cs : Array Value) : Row (w.setRow C cs) B ty n k g := by
  obtain ⟨cs', h1, h2, h3⟩ := h
  exact ⟨cs', by rw [Go.setRow_other _ _ _ _ hne]; exact h1, h2, h3⟩


/-! Rows of bytes. -/

def byteV (c : Nat) : Value := .int .u8 (c : Int)
def vOf (l : List Nat) (j : Nat) : Value := byteV (l.getD j 0)
def zV (_ : Nat) : Value := .int .u8 0

theorem vOf_eq (l : List Nat) (j : Nat) (h : j < l.length) : vOf l j = .int .u8 ((l[j] : Nat) : Int) := by
  simp [vOf, byteV, List.getD, h]

theorem Row.sl {w : World} {B n : Nat} {l : List Nat} (h : Row w B 5 n n (vOf l)) (hn : l.length = n) (hb : IsByte l) (hm : n ≤ maxLen) : Sl w (some ⟨B, 0, none⟩) n l :=
  ⟨hb, by omega, hm, fun e => (by cases e), .inr ⟨B, 0, rfl, fun i hi => by rw [Nat.zero_add, h.cell i (by omega), vOf_eq l i hi]⟩⟩

theorem info8 : (Tryz.prog.info? 5).map (fun i => (i.zero, i.size, i.bytes)) = some (some (.int .u8 0), 1, 1) := by kernel_rfl

set_option maxRecDepth 100000 in
theorem make_row (n : Nat) (hn : n ≤ 1000000) (w : World) : (Instr.makeSlice 53 (.int .i64 (n : Int)) (.int .i64 (n : Int))).run Tryz.prog w = .ok (.slice (some ⟨w.heap.size, 0, none⟩) n n) (w.alloc (.cells (rowArr n zV) 5)) := by
  have h := run_make_row' (P := Tryz.prog) 53 5 (.int .u8 0) 1 Tryz.underlying53 info8 rfl .i64 .i64 n (by omega) (by omega) w
  rw [h]
  congr 3
  apply Array.ext
  · simp [madeCells, rowArr]
  · intro i h1 h2
    simp [madeCells, rowArr, zV, Nat.mod_one]

/-- Behind W a row of its own, the first k bytes of m in it. -/
structure NewTo (W w : World) (m : List Nat) (k : Nat) : Prop where
  below : Below W.heap.size W w
  row : Row w W.heap.size 5 m.length k (vOf m)

theorem new_start (w : World) (m : List Nat) (n : Nat) (hn : m.length = n) : NewTo w (w.alloc (.cells (rowArr n zV) 5)) m 0 := by
  subst hn
  exact ⟨(Below.refl _ _).alloc (Nat.le_refl _) _, (Row.new_whole w _ _ zV _ _ rfl rfl).mono (Nat.zero_le _) (fun j hj => by omega)⟩
theorem NewTo.drewN {W w : World} {m : List Nat} {k : Nat} (h : NewTo W w m k) (n : Nat) : NewTo W (w.drewN n) m k := ⟨⟨h.below.os, h.below.tape, h.below.output, h.below.size, h.below.block⟩, h.row⟩
theorem NewTo.drew {W w : World} {m : List Nat} {k : Nat} (h : NewTo W w m k) : NewTo W w.drew m k := ⟨h.below.drew, h.row⟩
theorem NewTo.set {W w : World} {m : List Nat} {k : Nat} (h : NewTo W w m k) (hk : k < m.length) {u : Value} (hu : u = .int .u8 ((m[k] : Nat) : Int)) : NewTo W (w.setCell ⟨W.heap.size, k, none⟩ u) m (k + 1) :=
  ⟨h.below.setCell (Nat.le_refl _) _, h.row.set hk (by rw [hu, vOf_eq m k hk])⟩
theorem NewTo.sl {W w : World} {m : List Nat} (h : NewTo W w m m.length) (hb : IsByte m) (hm : m.length ≤ 1000000) : Sl w (some ⟨W.heap.size, 0, none⟩) m.length m :=
  h.row.sl rfl hb (by unfold maxLen; omega)

/-! Strings of bytes. -/

def strOf (l : List Nat) : ByteArray := strOfNums (l.map fun n : Nat => (n : Int))

theorem conv_sl (w : World) (a : Option Addr) (cap : Nat) (l : List Nat) (h : Sl w a cap l) : (convert 53 9 (.slice a l.length cap)).run Tryz.prog w = .ok (.string (strOf l)) w := by
  rcases a with _ | a
  · obtain ⟨rfl, rfl⟩ := h.none rfl
    exact run_convert_bytes_nil w 53 5 Tryz.underlying53 Tryz.underlying5 _ _ 9 Tryz.underlying9
  · rcases h.here with rfl | ⟨b, off, e, hb⟩
    · have := run_bytesToString (P := Tryz.prog) w a 0 cap [] rfl
      rw [run_convert_bytes_string w 53 9 5 _ _ _ Tryz.underlying53 Tryz.underlying5 Tryz.underlying9]
      exact this
    · cases e
      refine run_convert_bytes_arg w 53 5 Tryz.underlying53 Tryz.underlying5 b off l.length cap _ (by simp) (fun i hi => ?_) 9 Tryz.underlying9
      rw [hb i hi]
      simp [List.getD, hi]

/-! A parameter. -/

theorem cells8 : Tryz.prog.cellsOf 5 = 1 := by kernel_rfl

/-- A list of bytes that came in. -/
theorem bytes_in {H : Type} {enc : TypeId × Value → H} {w : World} {base fuel : Nat} {spare : Nat → Bool} {held : Bool} {c : Value} {x : DataW H × List MemPlace}
    (h : DataW.trod enc Tryz.prog w base spare held fuel 53 [c] = some x) :
    ∃ (a : Option Addr) (cap : Nat) (l : List Nat), c = .slice a l.length cap ∧ Sl w a cap l := by
  rcases open_ints Tryz.underlying53 Tryz.underlying5 cells8 h with ⟨hcs, hx⟩ | ⟨a, len, cap, zs, hcs, _, hl, hm, hz, hx, hcell, hwz⟩
  · simp only [List.cons.injEq, and_true] at hcs
    exact ⟨none, 0, [], hcs, nil_sl w⟩
  · simp only [List.cons.injEq, and_true] at hcs
    have hlz : len ≤ zs.length := by rw [hz]; split <;> omega
    have hll : ((zs.take len).map Int.toNat).length = len := by simp; omega
    refine ⟨some a, cap, (zs.take len).map Int.toNat, by rw [hll]; exact hcs, fun n hn => ?_, by omega, hm, fun e => (by cases e), ?_⟩
    · obtain ⟨z, hz1, rfl⟩ := List.mem_map.1 hn
      have := hwz z (List.mem_of_mem_take hz1)
      have hb : 0 ≤ z ∧ z ≤ 255 := by simpa [Lit.wf, IntKind.min, IntKind.max, IntKind.signed, IntKind.bits] using this
      omega
    · by_cases h0 : len = 0
      · exact .inl (List.length_eq_zero_iff.1 (by omega))
      · obtain ⟨b, off, spot⟩ := a
        have hc0 := hcell 0 (by omega)
        have hspot : spot = none := by simpa [Addr.add] using World.cell?_spot hc0
        subst hspot
        refine .inr ⟨b, off, rfl, fun i hi => ?_⟩
        have hi2 : i < len := by omega
        have hci := hcell i (by omega)
        have hwi := hwz zs[i] (List.getElem_mem (by omega))
        have hb : 0 ≤ zs[i] ∧ zs[i] ≤ 255 := by simpa [Lit.wf, IntKind.min, IntKind.max, IntKind.signed, IntKind.bits] using hwi
        have e : zs.getD i 0 = zs[i] := by simp [List.getD, show i < zs.length by omega]
        rw [e] at hci
        have e2 : ((((zs.take len).map Int.toNat)[i] : Nat) : Int) = zs[i] := by simp; omega
        rw [e2, ← hci]
        by_cases hi0 : i = 0
        · subst hi0; simp [Addr.add]
        · simp [Addr.add, hi0]
end Go.Proofs.YtfgaohilpbocbaaGreatDoor
end
