/-
  A disk in memory: what its blocks hold, by the plain account; what it leaves to others.
-/
import Derived.Test.YtoiggdcgfbjhpaaDskU
namespace Go.Proofs.Ytoiggdcgfbjhpaa
open Go.ChangeShapes Go.WideShapes Go.ChangeAt Go.RowKit Go.Joins
set_option linter.unusedVariables false

def upd {α : Type} (f : Nat → α) (i : Nat) (x : α) : Nat → α := fun j => if j = i then x else f j
theorem upd_same {α : Type} (f : Nat → α) (i : Nat) (x : α) : upd f i x i = x := if_pos rfl
theorem upd_other {α : Type} (f : Nat → α) {i j : Nat} (x : α) (h : j ≠ i) : upd f i x j = f j := if_neg h

/-- Where a disk's parts lie. -/
structure Gh where
  nm : Option Nat
  sf : Option Nat
  wa : Option Addr
  wc : Nat
  l : List (Value × Chg)
  ι : Nat → Option Nat
  rb : Nat → Option Nat
  nn : Nat
  ns : Nat
def Gh.on (g : Gh) (d : Dk) : Dk := { d with nm := g.nm, sf := g.sf, wa := g.wa, wl := g.l.length, wc := g.wc }
def Gh.row (g : Gh) : Option Nat := (Value.slice g.wa g.l.length g.wc).ownBlock
structure Rep (w : World) (B : Nat) (S : St) (g : Gh) : Prop where
  at' : DkAt w B (g.on S.d)
  l : g.l.map Prod.snd = S.l
  wts : Wts g.ι w g.wa g.l.length g.wc g.l
  wcap : g.wc ≤ maxLen ∧ g.l.length ≤ g.wc
  nm : Tab g.ι w g.nm g.nn S.Dn
  sf : Tab g.ι w g.sf g.ns S.Ds
  nil : g.nm = none ↔ g.sf = none
  apart : g.nm ≠ none → g.nm ≠ g.sf
  nil0 : g.sf = none → g.l.length = 0
  files : Files g.ι g.rb S.F w
  inj : ∀ b b' i, g.ι b = some i → g.ι b' = some i → b = b'
  injr : ∀ b b' i j r, g.ι b = some i → g.ι b' = some j → g.rb i = some r → g.rb j = some r → i = j
  lt : ∀ b i, g.ι b = some i → i < S.next
  nn : g.nn ≤ S.steps
  ns : g.ns + g.l.length ≤ S.steps
/-- The blocks of a disk. -/
def Foot (B : Nat) (g : Gh) (k : Nat) : Prop := k = B ∨ g.nm = some k ∨ g.sf = some k ∨ g.row = some k ∨ (∃ i, g.ι k = some i) ∨ ∃ b i, g.ι b = some i ∧ g.rb i = some k

theorem Tab.block {ι : Nat → Option Nat} {w : World} {t : Option Nat} {n : Nat} {D : DM} (h : Tab ι w t n D) {b : Nat} (hb : t = some b) : ∃ es clock, w.heap[b]? = some (.map es clock) := by
  rcases h with ⟨h1, _⟩ | ⟨b', h1, es, clock, h2, _⟩
  · rw [h1] at hb; cases hb
  · rw [h1] at hb; cases hb
    exact ⟨es, clock, h2⟩
theorem wts_block {ι : Nat → Option Nat} {w : World} {a : Option Addr} {len cap : Nat} {l : List (Value × Chg)} (h : Wts ι w a len cap l) {b : Nat} (hb : (Value.slice a len cap).ownBlock = some b) : ∃ cur, w.heap[b]? = some (.cells cur 61 (0, 0)) := by
  rcases h.row.2 with ⟨h1, _⟩ | ⟨g, cap', cur, hv, _, hg, _⟩
  · rw [h1] at hb; cases hb
  · rw [hv] at hb
    have : g = b := Option.some.inj hb
    subst this
    exact ⟨cur, hg⟩
theorem FileAt.block {w : World} {b : Nat} {rb : Option Nat} {f : Fl} (h : FileAt w b rb f) : ∃ cs, w.heap[b]? = some (.cells cs 69 (0, 0)) := by
  obtain ⟨v, _, _, h⟩ := h.here
  exact ⟨_, h⟩
theorem FileAt.bytesBlock {w : World} {b : Nat} {rb : Option Nat} {f : Fl} (h : FileAt w b rb f) {r : Nat} (hr : rb = some r) : ∃ cs, w.heap[r]? = some (.cells cs 5 (0, 0)) := by
  obtain ⟨v, e, ho, _⟩ := h.here
  rcases ho.2 with ⟨h0, _⟩ | ⟨g, cap, cur, hv, _, hg, _⟩
  · rw [h0] at e
    rw [hr] at e
    cases e
  · subst hv
    have : g = r := Option.some.inj (show some g = some r by rw [← hr, ← e]; rfl)
    subst this
    exact ⟨cur, hg⟩
theorem FileAt.fr {w w' : World} {X : Nat → Prop} {b : Nat} {rb : Option Nat} {f : Fl} (h : FileAt w b rb f) (k : Fr X w w') (h1 : ¬ X b) (h2 : ∀ r, rb = some r → ¬ X r) : FileAt w' b rb f := by
  obtain ⟨f1, f2, f3, v, e, ho, hb⟩ := h
  refine ⟨f1, f2, f3, v, e, ⟨ho.1, ?_⟩, (k.block b (Array.getElem?_eq_some_iff.1 hb).1 h1).trans hb⟩
  rcases ho.2 with h0 | ⟨g, cap, cur, hv, hg0, hg, r⟩
  · exact .inl h0
  · subst hv
    exact .inr ⟨g, cap, cur, rfl, hg0, (k.block g (Array.getElem?_eq_some_iff.1 hg).1 (h2 g (by rw [← e]; rfl))).trans hg, r⟩
theorem blk_lt {w : World} {b : Nat} {o : Obj} (h : w.heap[b]? = some o) : b < w.heap.size := (Array.getElem?_eq_some_iff.1 h).1

theorem Rep.foot_lt {w : World} {B : Nat} {S : St} {g : Gh} (h : Rep w B S g) {k : Nat} (hk : Foot B g k) : k < w.heap.size := by
  rcases hk with rfl | hk | hk | hk | ⟨i, hk⟩ | ⟨b, i, hb, hk⟩
  · exact h.at'.lt
  · obtain ⟨_, _, hb⟩ := h.nm.block hk; exact blk_lt hb
  · obtain ⟨_, _, hb⟩ := h.sf.block hk; exact blk_lt hb
  · obtain ⟨_, hb⟩ := wts_block h.wts hk; exact blk_lt hb
  · obtain ⟨_, hb⟩ := (h.files k i hk).block; exact blk_lt hb
  · obtain ⟨_, hb⟩ := (h.files b i hb).bytesBlock hk; exact blk_lt hb

theorem Rep.fr {w w' : World} {X : Nat → Prop} {B : Nat} {S : St} {g : Gh} (h : Rep w B S g) (k : Fr X w w') (hx : ∀ b, Foot B g b → ¬ X b) : Rep w' B S g :=
  ⟨h.at'.fr k (hx B (.inl rfl)), h.l, h.wts.fr k (fun p hp => hx p.block (.inr (.inr (.inr (.inl (by unfold Gh.row; rw [hp]; rfl)))))), h.wcap,
    h.nm.fr k (fun b hb => hx b (.inr (.inl hb))), h.sf.fr k (fun b hb => hx b (.inr (.inr (.inl hb)))), h.nil, h.apart, h.nil0,
    fun b i hi => (h.files b i hi).fr k (hx b (.inr (.inr (.inr (.inr (.inl ⟨i, hi⟩)))))) (fun r hr => hx r (.inr (.inr (.inr (.inr (.inr ⟨b, i, hi, hr⟩)))))),
    h.inj, h.injr, h.lt, h.nn, h.ns⟩
theorem Rep.later {w w' : World} {B : Nat} {S : St} {g : Gh} (h : Rep w B S g) (k : Below w.heap.size w w') : Rep w' B S g := h.fr (X := fun _ => False) (Fr.of_below k) (fun _ _ h => h)

/-- What an act has done: the disk is as the account says, and nothing but its blocks has turned. -/
def Did (B : Nat) (S' : St) (g : Gh) (w w' : World) : Prop := ∃ g', Rep w' B S' g' ∧ Fr (Foot B g) w w' ∧ ∀ k, Foot B g' k → Foot B g k ∨ w.heap.size ≤ k
theorem Rep.did {w : World} {B : Nat} {S : St} {g : Gh} (h : Rep w B S g) : Did B S g w w := ⟨g, h, Fr.refl _ _, fun _ h => .inl h⟩

/-- The disk's own numbers have turned. -/
theorem Rep.core {w w' : World} {B : Nat} {S : St} {g : Gh} (h : Rep w B S g) {d : Dk} (hd : DkAt w' B (g.on d)) (o : Only B w w') : Rep w' B { S with d := d } g := by
  have k : Fr (fun k => k = B) w w' := Fr.of_only o rfl
  have hB := h.at'.blk
  refine ⟨hd, h.l, h.wts.fr k (fun p hp e => ?_), h.wcap, h.nm.fr k (fun b hb e => ?_), h.sf.fr k (fun b hb e => ?_), h.nil, h.apart, h.nil0, fun b i hi => (h.files b i hi).fr k (fun e => ?_) (fun r hr e => ?_), h.inj, h.injr, h.lt, h.nn, h.ns⟩
  · obtain ⟨cur, hb⟩ := wts_block h.wts (b := p.block) (by rw [hp]; rfl)
    rw [e, hB] at hb; cases hb
  · obtain ⟨_, _, hb⟩ := h.nm.block hb
    rw [e, hB] at hb; cases hb
  · obtain ⟨_, _, hb⟩ := h.sf.block hb
    rw [e, hB] at hb; cases hb
  · obtain ⟨_, hb⟩ := (h.files b i hi).block
    rw [e, hB] at hb; cases hb
  · obtain ⟨_, hb⟩ := (h.files b i hi).bytesBlock hr
    rw [e, hB] at hb; cases hb
theorem Rep.core_did {w w' : World} {B : Nat} {S : St} {g : Gh} (h : Rep w B S g) {d : Dk} (hd : DkAt w' B (g.on d)) (o : Only B w w') : Did B { S with d := d } g w w' :=
  ⟨g, h.core hd o, Fr.of_only o (.inl rfl), fun _ h => .inl h⟩
theorem passD_on (g : Gh) (d : Dk) : passD (g.on d) = ((passD d).1, g.on (passD d).2) := by
  unfold passD Gh.on
  simp only
  split
  · rfl
  · split <;> rfl

/-- A file has turned, or its bytes lie elsewhere. -/
theorem Rep.file {w w' : World} {B : Nat} {S : St} {g : Gh} (h : Rep w B S g) {b i : Nat} (hi : g.ι b = some i) {r' : Option Nat} {f' : Fl} (hf : FileAt w' b r' f') (hr : ∀ k, r' = some k → g.rb i = some k ∨ w.heap.size ≤ k)
    (k : Fr (fun k => k = b ∨ g.rb i = some k) w w') : Rep w' B { S with F := upd S.F i f' } { g with rb := upd g.rb i r' } ∧ ∀ j, Foot B { g with rb := upd g.rb i r' } j → Foot B g j ∨ w.heap.size ≤ j := by
  obtain ⟨cf, hbf⟩ := (h.files b i hi).block
  have hbr : ∀ r, g.rb i = some r → ∃ cs, w.heap[r]? = some (.cells cs 5 (0, 0)) := fun r hr => (h.files b i hi).bytesBlock hr
  have hno : ∀ {j : Nat} {o : Obj}, w.heap[j]? = some o → (∀ cs t fz, o = .cells cs t fz → t ≠ 69 ∧ t ≠ 5) → ¬ (j = b ∨ g.rb i = some j) := fun {j o} ho hn e => by
    rcases e with rfl | e
    · rw [hbf] at ho; exact (hn _ _ _ (Option.some.inj ho).symm).1 rfl
    · obtain ⟨cs, hr2⟩ := hbr _ e
      rw [hr2] at ho; exact (hn _ _ _ (Option.some.inj ho).symm).2 rfl
  refine ⟨⟨h.at'.fr k (hno h.at'.blk fun cs t fz e => by cases e; decide), h.l, h.wts.fr k (fun p hp => ?_), h.wcap, h.nm.fr k (fun b' hb => ?_), h.sf.fr k (fun b' hb => ?_), h.nil, h.apart, h.nil0, fun b' i' hi' => ?_, h.inj, fun b1 b2 i1 i2 r h1 h2 h3 h4 => ?_, h.lt, h.nn, h.ns⟩, fun j hj => ?_⟩
  · obtain ⟨cur, hb⟩ := wts_block h.wts (b := p.block) (by rw [hp]; rfl)
    exact hno hb fun cs t fz e => by cases e; decide
  · obtain ⟨_, _, hb⟩ := h.nm.block hb
    exact hno hb fun cs t fz e => by cases e
  · obtain ⟨_, _, hb⟩ := h.sf.block hb
    exact hno hb fun cs t fz e => by cases e
  · by_cases e : i' = i
    · subst e
      obtain rfl := h.inj _ _ _ hi hi'
      show FileAt w' b (upd g.rb i' r' i') (upd S.F i' f' i')
      rw [upd_same, upd_same]
      exact hf
    · show FileAt w' b' (upd g.rb i r' i') (upd S.F i f' i')
      rw [upd_other _ _ e, upd_other _ _ e]
      refine (h.files b' i' hi').fr k (fun e2 => ?_) (fun r hr2 e2 => ?_)
      · rcases e2 with rfl | e2
        · rw [hi] at hi'
          exact e (Option.some.inj hi').symm
        · obtain ⟨_, h1⟩ := (h.files b' i' hi').block
          obtain ⟨_, h2⟩ := hbr _ e2
          rw [h1] at h2; cases h2
      · rcases e2 with rfl | e2
        · obtain ⟨_, h1⟩ := (h.files b' i' hi').bytesBlock hr2
          rw [hbf] at h1; cases h1
        · exact e (h.injr _ _ _ _ _ hi' hi hr2 e2)
  · have hnew : ∀ b' j r, g.ι b' = some j → j ≠ i → g.rb j = some r → r' = some r → False := fun b' j r hj hne h5 h6 => by
      rcases hr r h6 with h7 | h7
      · exact hne (h.injr _ _ _ _ _ hj hi h5 h7)
      · obtain ⟨_, h8⟩ := (h.files b' j hj).bytesBlock h5
        have := blk_lt h8
        omega
    have h3 : upd g.rb i r' i1 = some r := h3
    have h4 : upd g.rb i r' i2 = some r := h4
    by_cases e1 : i1 = i <;> by_cases e2 : i2 = i
    · rw [e1, e2]
    · subst e1
      rw [upd_same] at h3
      rw [upd_other _ _ e2] at h4
      exact (hnew _ _ _ h2 e2 h4 h3).elim
    · subst e2
      rw [upd_same] at h4
      rw [upd_other _ _ e1] at h3
      exact (hnew _ _ _ h1 e1 h3 h4).elim
    · rw [upd_other _ _ e1] at h3
      rw [upd_other _ _ e2] at h4
      exact h.injr _ _ _ _ _ h1 h2 h3 h4
  · rcases hj with h1 | h1 | h1 | h1 | h1 | ⟨b', i', h1, h2⟩
    · exact .inl (.inl h1)
    · exact .inl (.inr (.inl h1))
    · exact .inl (.inr (.inr (.inl h1)))
    · exact .inl (.inr (.inr (.inr (.inl h1))))
    · exact .inl (.inr (.inr (.inr (.inr (.inl h1)))))
    · have h2 : upd g.rb i r' i' = some j := h2
      by_cases e : i' = i
      · subst e
        rw [upd_same] at h2
        rcases hr j h2 with h3 | h3
        · exact .inl (.inr (.inr (.inr (.inr (.inr ⟨b, _, hi, h3⟩)))))
        · exact .inr h3
      · rw [upd_other _ _ e] at h2
        exact .inl (.inr (.inr (.inr (.inr (.inr ⟨b', i', h1, h2⟩)))))

/-! Files more. -/
theorem fileR_mono {ι ι' : Nat → Option Nat} (hm : ∀ b i, ι b = some i → ι' b = some i) {v : Value} {z : DM × List MemPlace} (h : fileR ι v = some z) : fileR ι' v = some z := by
  rcases fileR_inv h with ⟨rfl, rfl⟩ | ⟨b, i, rfl, hi, rfl⟩
  · rfl
  · simp [fileR, hm b i hi]
theorem own_mono {ι ι' : Nat → Option Nat} (hm : ∀ b i, ι b = some i → ι' b = some i) {w : World} {b n : Nat} {D : DM} (h : w.ownsMap Try.prog 9 (fileR ι) b n D) : w.ownsMap Try.prog 9 (fileR ι') b n D := by
  obtain ⟨es, clock, hb, F, hn, rfl⟩ := h
  exact (World.ownsMap_of_fit hb F (fun x _ z hz => fileR_mono hm hz)).mono hn
theorem Tab.mono {ι ι' : Nat → Option Nat} (hm : ∀ b i, ι b = some i → ι' b = some i) {w : World} {t : Option Nat} {n : Nat} {D : DM} (h : Tab ι w t n D) : Tab ι' w t n D := by
  rcases h with h | ⟨b, h1, h2⟩
  · exact .inl h
  · exact .inr ⟨b, h1, own_mono hm h2⟩
theorem wts_mono {ι ι' : Nat → Option Nat} (hm : ∀ b i, ι b = some i → ι' b = some i) {w : World} {a : Option Addr} {len cap : Nat} {l : List (Value × Chg)} (h : Wts ι w a len cap l) : Wts ι' w a len cap l :=
  ⟨h.row, h.len, fun x hx => fileR_mono hm (h.ptr x hx), h.src⟩
end Go.Proofs.Ytoiggdcgfbjhpaa
