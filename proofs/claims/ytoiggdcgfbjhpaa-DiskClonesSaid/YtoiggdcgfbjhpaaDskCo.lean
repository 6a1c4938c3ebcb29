/-
  Clone: a disk by itself that is as this one is.
-/
import Derived.Test.YtoiggdcgfbjhpaaDskRs
namespace Go.Proofs.Ytoiggdcgfbjhpaa
open Go.ChangeShapes Go.WideShapes Go.ChangeAt Go.RowKit Go.Joins
set_option linter.unusedVariables false

/-- Copies of the files whose numbers P tells; each in new memory. -/
structure Cq (W0 : World) (P : Nat → Prop) (ι rb : Nat → Option Nat) (F : Nat → Fl) (w : World) : Prop where
  files : Files ι rb F w
  new : ∀ k i, ι k = some i → W0.heap.size ≤ k
  newr : ∀ k i r, ι k = some i → rb i = some r → W0.heap.size ≤ r
  inj : ∀ b b' i, ι b = some i → ι b' = some i → b = b'
  injr : ∀ b b' i j r, ι b = some i → ι b' = some j → rb i = some r → rb j = some r → i = j
  org : ∀ k i, ι k = some i → P i
theorem Cq.lt {W0 w : World} {P : Nat → Prop} {ι rb : Nat → Option Nat} {F : Nat → Fl} (h : Cq W0 P ι rb F w) {k i : Nat} (hk : ι k = some i) : k < w.heap.size := by
  obtain ⟨_, hb⟩ := (h.files k i hk).block
  exact blk_lt hb
theorem Cq.fr {W0 w w' : World} {P : Nat → Prop} {ι rb : Nat → Option Nat} {F : Nat → Fl} (h : Cq W0 P ι rb F w) {X : Nat → Prop} (k : Fr X w w') (h1 : ∀ b i, ι b = some i → ¬ X b) (h2 : ∀ b i r, ι b = some i → rb i = some r → ¬ X r) : Cq W0 P ι rb F w' :=
  ⟨h.files.fr k (fun b i hi => h1 b i hi) (fun b i hi r hr => h2 b i r hi hr), h.new, h.newr, h.inj, h.injr, h.org⟩
theorem Cq.later {W0 w w' : World} {P : Nat → Prop} {ι rb : Nat → Option Nat} {F : Nat → Fl} (h : Cq W0 P ι rb F w) (k : Below w.heap.size w w') : Cq W0 P ι rb F w' :=
  h.fr (X := fun _ => False) (Fr.of_below k) (fun _ _ _ h => h) (fun _ _ _ _ _ h => h)
/-- A block that is no file and no bytes is none of theirs. -/
theorem Cq.not {W0 w : World} {P : Nat → Prop} {ι rb : Nat → Option Nat} {F : Nat → Fl} (h : Cq W0 P ι rb F w) {m : Nat} {o : Obj} (hm : w.heap[m]? = some o) (ho : ∀ cs t fz, o = .cells cs t fz → t ≠ 69 ∧ t ≠ 5) :
    (∀ b i, ι b = some i → b ≠ m) ∧ ∀ b i r, ι b = some i → rb i = some r → r ≠ m := by
  refine ⟨fun b i hi e => ?_, fun b i r hi hr e => ?_⟩
  · obtain ⟨_, h1⟩ := (h.files b i hi).block
    rw [e, hm] at h1
    exact (ho _ _ _ (Option.some.inj h1)).1 rfl
  · obtain ⟨_, h1⟩ := (h.files b i hi).bytesBlock hr
    rw [e, hm] at h1
    exact (ho _ _ _ (Option.some.inj h1)).2 rfl
/-- A copy more. -/
theorem Cq.more {W0 w w' : World} {P : Nat → Prop} {ι rb : Nat → Option Nat} {F : Nat → Fl} (h : Cq W0 P ι rb F w) {i b : Nat} {r : Option Nat} (hno : ¬ P i) (hW : W0.heap.size ≤ w.heap.size)
    (hb : w.heap.size ≤ b) (hr : ∀ k, r = some k → w.heap.size ≤ k ∧ k ≠ b) (hf : FileAt w' b r (F i)) (k : Below w.heap.size w w') :
    Cq W0 (fun j => P j ∨ j = i) (upd ι b (some i)) (upd rb i r) F w' ∧ ∀ b' j, ι b' = some j → upd ι b (some i) b' = some j := by
  have hlt := fun {b' j : Nat} (e : ι b' = some j) => h.lt e
  have hinv : ∀ {b' j : Nat}, upd ι b (some i) b' = some j → (b' = b ∧ j = i) ∨ (b' ≠ b ∧ j ≠ i ∧ ι b' = some j) := fun {b' j} e => by
    by_cases e1 : b' = b
    · subst e1
      rw [upd_same] at e
      exact .inl ⟨rfl, (Option.some.inj e).symm⟩
    · rw [upd_other _ _ e1] at e
      exact .inr ⟨e1, fun e2 => hno (e2 ▸ h.org b' j e), e⟩
  have hblk : ∀ {b' j r' : Nat}, ι b' = some j → rb j = some r' → r' < w.heap.size := fun {b' j r'} e1 e2 => by
    obtain ⟨_, h5⟩ := (h.files b' j e1).bytesBlock e2
    exact blk_lt h5
  refine ⟨⟨fun b' j hj => ?_, fun b' j hj => ?_, fun b' j r' hj hr' => ?_, fun b1 b2 j h1 h2 => ?_, fun b1 b2 j1 j2 r' h1 h2 h3 h4 => ?_, fun b' j hj => ?_⟩, fun b' j hj => ?_⟩
  · rcases hinv hj with ⟨rfl, rfl⟩ | ⟨e1, e2, e3⟩
    · rw [upd_same]; exact hf
    · rw [upd_other _ _ e2]
      exact (h.files b' j e3).fr (X := fun _ => False) (Fr.of_below k) (fun h => h) (fun _ _ h => h)
  · rcases hinv hj with ⟨rfl, rfl⟩ | ⟨e1, e2, e3⟩
    · omega
    · exact h.new b' j e3
  · rcases hinv hj with ⟨rfl, rfl⟩ | ⟨e1, e2, e3⟩
    · rw [upd_same] at hr'
      have := (hr r' hr').1; omega
    · rw [upd_other _ _ e2] at hr'
      exact h.newr b' j r' e3 hr'
  · rcases hinv h1 with ⟨rfl, rfl⟩ | ⟨e1, e2, e3⟩ <;> rcases hinv h2 with ⟨rfl, e4⟩ | ⟨e5, e6, e7⟩
    · rfl
    · exact absurd rfl e6
    · exact absurd e4 e2
    · exact h.inj _ _ _ e3 e7
  · rcases hinv h1 with ⟨rfl, rfl⟩ | ⟨e1, e2, e3⟩ <;> rcases hinv h2 with ⟨e4, e5⟩ | ⟨e5, e6, e7⟩
    · exact e5.symm
    · rw [upd_same] at h3
      rw [upd_other _ _ e6] at h4
      have := (hr r' h3).1
      have := hblk e7 h4
      omega
    · subst e5
      rw [upd_same] at h4
      rw [upd_other _ _ e2] at h3
      have := (hr r' h4).1
      have := hblk e3 h3
      omega
    · rw [upd_other _ _ e2] at h3
      rw [upd_other _ _ e6] at h4
      exact h.injr _ _ _ _ _ e3 e7 h3 h4
  · rcases hinv hj with ⟨rfl, rfl⟩ | ⟨e1, e2, e3⟩
    · exact .inr rfl
    · exact .inl (h.org b' j e3)
  · have := hlt hj
    rw [upd_other _ _ (by omega)]; exact hj
theorem Cp.toq {W0 w : World} {D : DM} {ι rb : Nat → Option Nat} {F : Nat → Fl} (h : Cp W0 D (fun _ => false) ι rb F w) : Cq W0 (fun i => ∃ s, At D s i) ι rb F w :=
  ⟨h.files, h.new, h.newr, h.inj, h.injr, fun k i hk => by obtain ⟨s, hs, _⟩ := h.org k i hk; exact ⟨s, hs⟩⟩

/-- What Clone gives. -/
def CloPost (S : St) (w : World) (e : Ending) (w' : World) : Prop :=
  ∃ C g', e = .returned (.pointer (some ⟨C, 0, none⟩)) ∧ Rep w' C S g' ∧ (∀ k, Foot C g' k → w.heap.size ≤ k) ∧ Below w.heap.size w w'

/-- The changes of the copy: the first k tell copies of their files, the others the files themselves. -/
structure Half (l : List Chg) (ι ι2 : Nat → Option Nat) (k : Nat) (lk : List (Value × Chg)) : Prop where
  snd : lk.map Prod.snd = l
  low : ∀ j (h : j < lk.length), j < k → fileR ι2 lk[j].1 = some (idD lk[j].2.made, [])
  high : ∀ j (h : j < lk.length), k ≤ j → fileR ι lk[j].1 = some (idD lk[j].2.made, [])
  src : ∀ x ∈ l, x.src.size ≤ maxLen ∧ x.dst.size ≤ maxLen
theorem Half.len {l : List Chg} {ι ι2 : Nat → Option Nat} {k : Nat} {lk : List (Value × Chg)} (h : Half l ι ι2 k lk) : lk.length = l.length := by rw [← h.snd, List.length_map]
theorem Half.at2 {l : List Chg} {ι ι2 : Nat → Option Nat} {k : Nat} {lk : List (Value × Chg)} (h : Half l ι ι2 k lk) {j : Nat} (hj : j < lk.length) : lk[j].2 = l[j]'(by rw [← h.len]; exact hj) := by
  have := h.snd
  subst this
  simp
def numsK (S : St) (k : Nat) (i : Nat) : Prop := (∃ s, At S.Ds s i) ∨ ∃ j, ∃ h : j < S.l.length, j < k ∧ S.l[j].made = (i : Int)
/-- What holds at the head of each round of Clone's first loop. -/
structure Lp (w : World) (C : Nat) (S : St) (g : Gh) (bs : Nat) (a : Option Addr) (cap : Nat) (ι1 : Nat → Option Nat) (k : Nat) (wr : World) (ι2 rb2 : Nat → Option Nat) (lk : List (Value × Chg)) : Prop where
  at' : DkAt wr C { g.on S.d with sf := some bs, wa := a, wl := S.l.length, wc := cap }
  own : wr.ownsMap Try.prog 9 (fileR ι1) bs g.ns S.Ds
  row : wr.ownsRow 0 61 3 (.slice a S.l.length cap) S.l.length (encC lk)
  half : Half S.l g.ι ι2 k lk
  up : ∀ b i, ι1 b = some i → ι2 b = some i
  files : Cq w (numsK S k) ι2 rb2 S.F wr
  low : Below w.heap.size w wr
theorem Cq.mono {W0 w : World} {P Q : Nat → Prop} {ι rb : Nat → Option Nat} {F : Nat → Fl} (h : Cq W0 P ι rb F w) (hq : ∀ i, P i → Q i) : Cq W0 Q ι rb F w := ⟨h.files, h.new, h.newr, h.inj, h.injr, fun k i hk => hq i (h.org k i hk)⟩
theorem numsK_succ {S : St} {k i : Nat} (h : numsK S k i) : numsK S (k + 1) i := by
  rcases h with h | ⟨j, hj, h1, h2⟩
  · exact .inl h
  · exact .inr ⟨j, hj, by omega, h2⟩
theorem Lp.later {w wr wr' : World} {C : Nat} {S : St} {g : Gh} {bs : Nat} {a : Option Addr} {cap : Nat} {ι1 : Nat → Option Nat} {k : Nat} {ι2 rb2 : Nat → Option Nat} {lk : List (Value × Chg)} (h : Lp w C S g bs a cap ι1 k wr ι2 rb2 lk) (hb : Below wr.heap.size wr wr') : Lp w C S g bs a cap ι1 k wr' ι2 rb2 lk :=
  ⟨h.at'.fr (X := fun _ => False) (Fr.of_below hb) (fun h => h), own_fr h.own (Fr.of_below (X := fun _ => False) hb) (fun h => h), row_fr (X := fun _ => False) h.row (Fr.of_below hb) (fun _ _ h => h), h.half, h.up, h.files.later hb, h.low.trans (hb.mono h.low.size)⟩
/-- A change without a file. -/
theorem Lp.skip {w wr : World} {C : Nat} {S : St} {g : Gh} {bs : Nat} {a : Option Addr} {cap : Nat} {ι1 : Nat → Option Nat} {k : Nat} {ι2 rb2 : Nat → Option Nat} {lk : List (Value × Chg)} (h : Lp w C S g bs a cap ι1 k wr ι2 rb2 lk) (hk : k < lk.length) (hv : lk[k].1 = .pointer none) : Lp w C S g bs a cap ι1 (k + 1) wr ι2 rb2 lk := by
  refine ⟨h.at', h.own, h.row, ⟨h.half.snd, fun j hj hjk => ?_, fun j hj hjk => h.half.high j hj (by omega), h.half.src⟩, h.up, h.files.mono fun i hi => numsK_succ hi, h.low⟩
  by_cases e : j = k
  · subst e
    have := h.half.high j hj (Nat.le_refl _)
    rw [hv] at this ⊢
    exact this
  · exact h.half.low j hj (by omega)
theorem encC_set {l : List (Value × Chg)} : ∀ {k : Nat} (v : Value) (h : k < l.length), encC (l.set k (v, l[k].2)) = (encC l).set (k * 3) v := by
  induction l with
  | nil => intro k v h; simp at h
  | cons x l ih =>
    intro k v h
    cases k with
    | zero => simp [encC]
    | succ k =>
      have := ih (k := k) v (by simpa using h)
      have e : (k + 1) * 3 = k * 3 + 1 + 1 + 1 := by omega
      simp only [encC, List.set_cons_succ, List.flatMap_cons, List.cons_append, List.nil_append, e, List.getElem_cons_succ] at this ⊢
      rw [this]
theorem row_set {w : World} {e s n : Nat} {r cap : Nat} {xs : List Value} (h : w.ownsRow 0 e s (.slice (some ⟨r, 0, none⟩) n cap) n xs) {i : Nat} (hi : i < n * s) (u : Value) : (w.setCell ⟨r, i, none⟩ u).ownsRow 0 e s (.slice (some ⟨r, 0, none⟩) n cap) n (xs.set i u) := by
  refine ⟨by rw [List.length_set]; exact h.1, ?_⟩
  rcases h.2 with ⟨h0, _⟩ | ⟨g, cap', cur, hv, hg0, hg, h1, h2, h3, h4⟩
  · cases h0
  · cases hv
    refine .inr ⟨r, cap, cur.setIfInBounds i u, rfl, hg0, heap_setCell_same w r i cur _ u hg, h1, h2, by simpa using h3, ?_⟩
    rw [Array.toList_setIfInBounds, List.take_set, h4]
/-- A change with a file, copied. -/
theorem Lp.step {w wr w5 w8 : World} {C : Nat} {S : St} {g : Gh} {bs : Nat} {r cap : Nat} {ι1 : Nat → Option Nat} {k : Nat} {ι2 rb2 : Nat → Option Nat} {lk : List (Value × Chg)} (h : Lp w C S g bs (some ⟨r, 0, none⟩) cap ι1 k wr ι2 rb2 lk) (hI : Inv S) (hk : k < lk.length) {i b2 : Nat} {r2 : Option Nat} (hm : lk[k].2.made = (i : Int))
    (q1 : wr.heap.size ≤ b2) (q2 : ∀ j, r2 = some j → wr.heap.size ≤ j ∧ j ≠ b2) (q3 : FileAt w5 b2 r2 (S.F i)) (q4 : Below wr.heap.size wr w5) (q5 : Below w5.heap.size w5 w8) (hC : w.heap.size ≤ C) (hr : w.heap.size ≤ r) (hb : w.heap.size ≤ bs) :
    Lp w C S g bs (some ⟨r, 0, none⟩) cap ι1 (k + 1) (w8.setCell ⟨r, k * 3, none⟩ (.pointer (some ⟨b2, 0, none⟩))) (upd ι2 b2 (some i)) (upd rb2 i r2) (lk.set k (.pointer (some ⟨b2, 0, none⟩), lk[k].2)) := by
  have hkS : k < S.l.length := by rw [← h.half.len]; exact hk
  have hmS : S.l[k].made = (i : Int) := by rw [← h.half.at2 hk]; exact hm
  have hno : ¬ numsK S k i := by
    rintro (⟨s, hs⟩ | ⟨j, hj, h1, h2⟩)
    · exact hI.apart _ (List.getElem_mem hkS) i hmS s hs
    · have := (List.pairwise_iff_getElem.1 hI.each) j k hj hkS h1
      rcases this with e | e
      · omega
      · exact e (by rw [h2, hmS])
  obtain ⟨hq, hup⟩ := h.files.more hno h.low.size q1 q2 q3 q4
  have h8 := hq.later q5
  have hL8 := h.later (q4.trans (q5.mono q4.size))
  have hrow8 := hL8.row
  have hrb : ∃ cur, w8.heap[r]? = some (.cells cur 61 (0, 0)) := by
    rcases hrow8.2 with ⟨h0, _⟩ | ⟨gg, cap', cur, hv, _, hg, _⟩
    · cases h0
    · cases hv; exact ⟨cur, hg⟩
  obtain ⟨cur, hcur⟩ := hrb
  obtain ⟨n1, n2⟩ := h8.not hcur (fun cs t fz e => by cases e; decide)
  have kf : Fr (fun j => j = r) w8 (w8.setCell ⟨r, k * 3, none⟩ (.pointer (some ⟨b2, 0, none⟩))) := Fr.set (X := fun j => j = r) (Fr.refl _ w8) (p := ⟨r, k * 3, none⟩) (fun _ => rfl) _
  refine ⟨hL8.at'.fr kf (fun e => ?_), own_fr hL8.own kf (fun e => ?_), ?_, ⟨?_, fun j hj hjk => ?_, fun j hj hjk => ?_, h.half.src⟩, fun b i hi => hup b i (h.up b i hi), (h8.fr kf n1 n2).mono fun j hj => ?_, hL8.low.trans (kf.below (B := w.heap.size) hL8.low.size (fun q hq e => by omega))⟩
  · have := hL8.at'.blk
    rw [e, hcur] at this; cases this
  · obtain ⟨es, clock, hm2, _⟩ := hL8.own
    rw [e, hcur] at hm2; cases hm2
  · rw [encC_set]
    exact row_set hrow8 (by omega) _
  · rw [List.map_set]
    show (lk.map Prod.snd).set k lk[k].2 = S.l
    have e : lk[k].2 = (lk.map Prod.snd)[k]'(by simpa using hk) := by simp
    rw [e, List.set_getElem_self]
    exact h.half.snd
  · rw [List.getElem_set]
    split
    · rename_i e
      show fileR (upd ι2 b2 (some i)) (.pointer (some ⟨b2, 0, none⟩)) = some (idD lk[k].2.made, [])
      rw [hm]
      simp [fileR, upd_same]
    · rename_i e
      have hj' : j < lk.length := by simpa using hj
      exact fileR_mono hup (h.half.low j hj' (by omega))
  · rw [List.getElem_set]
    split
    · omega
    · have hj' : j < lk.length := by simpa using hj
      exact h.half.high j hj' (by omega)
  · rcases hj with hj | rfl
    · exact numsK_succ hj
    · exact .inr ⟨k, hkS, by omega, hmS⟩

theorem Lp.wts {w wr : World} {C : Nat} {S : St} {g : Gh} {bs : Nat} {a : Option Addr} {cap : Nat} {ι1 : Nat → Option Nat} {k : Nat} {ι2 rb2 : Nat → Option Nat} {lk : List (Value × Chg)} (h : Lp w C S g bs a cap ι1 k wr ι2 rb2 lk) (hk : S.l.length ≤ k) : Wts ι2 wr a S.l.length cap lk :=
  ⟨h.row, h.half.len, fun x hx => by
    obtain ⟨j, hj, rfl⟩ := List.getElem_of_mem hx
    exact h.half.low j hj (by rw [h.half.len] at hj; omega), fun x hx => h.half.src x.2 (by rw [← h.half.snd]; exact List.mem_map_of_mem hx)⟩

/-- The copy, but for its names. -/
structure Ld (w : World) (C : Nat) (S : St) (g : Gh) (bs bn : Nat) (a : Option Addr) (cap : Nat) (wr : World) (ι2 rb2 : Nat → Option Nat) (lk : List (Value × Chg)) : Prop where
  at' : DkAt wr C { g.on S.d with nm := some bn, sf := some bs, wa := a, wl := S.l.length, wc := cap }
  own : wr.ownsMap Try.prog 9 (fileR ι2) bs g.ns S.Ds
  wts : Wts ι2 wr a S.l.length cap lk
  snd : lk.map Prod.snd = S.l
  files : Cq w (numsK S S.l.length) ι2 rb2 S.F wr
  low : Below w.heap.size w wr
theorem Lp.named {w wr w5 : World} {C : Nat} {S : St} {g : Gh} {bs bn : Nat} {a : Option Addr} {cap : Nat} {ι1 : Nat → Option Nat} {ι2 rb2 : Nat → Option Nat} {lk : List (Value × Chg)} (h : Lp w C S g bs a cap ι1 S.l.length wr ι2 rb2 lk) (hb : Below wr.heap.size wr w5) (hC : w.heap.size ≤ C) :
    Ld w C S g bs bn a cap (w5.setCell ⟨C, 2, none⟩ (.map (some bn))) ι2 rb2 lk ∧ (w5.cell? ⟨C, 2, none⟩ = some (.map g.nm) ∧ w5.frozen? ⟨C, 2, none⟩ = false) := by
  have h5 := h.later hb
  have k : Fr (fun j => j = C) w5 (w5.setCell ⟨C, 2, none⟩ (.map (some bn))) := Fr.of_only (Only.set C 2 w5 _) rfl
  have ok := h5.at'.ok
  have hB := h5.at'.blk
  obtain ⟨n1, n2⟩ := h5.files.not hB (fun cs t fz e => by cases e; decide)
  have hw := h5.wts (Nat.le_refl _)
  refine ⟨⟨h5.at'.set 2 _ ⟨ok.cap1, ok.cap2, ok.used1, ok.used2, ok.fl1, ok.fl2, ok.gl1, ok.gl2, ok.len⟩ (by simp [Dk.cells]), own_fr (own_mono h5.up h5.own) k (fun e => ?_), hw.fr k (fun p hp e => ?_), h5.half.snd, h5.files.fr k n1 n2, h5.low.trans (k.below (B := w.heap.size) h5.low.size (fun q hq e => by omega))⟩, ?_, h5.at'.loose 2⟩
  · obtain ⟨es, clock, hm2, _⟩ := h5.own
    rw [e, hB] at hm2; cases hm2
  · obtain ⟨cur, hb⟩ := wts_block hw (b := p.block) (by rw [hp]; rfl)
    rw [e, hB] at hb; cases hb
  · rw [h5.at'.cell]; simp [Dk.cells, Gh.on]
theorem Ld.fr {w wr wr' : World} {C : Nat} {S : St} {g : Gh} {bs bn : Nat} {a : Option Addr} {cap : Nat} {ι2 rb2 : Nat → Option Nat} {lk : List (Value × Chg)} (h : Ld w C S g bs bn a cap wr ι2 rb2 lk) (k : Fr (fun j => j = bn) wr wr') {es : Array MapEntry} {clock : Nat} (hm : wr.heap[bn]? = some (.map es clock)) (hne : bs ≠ bn) (hbn : w.heap.size ≤ bn) : Ld w C S g bs bn a cap wr' ι2 rb2 lk := by
  obtain ⟨n1, n2⟩ := h.files.not hm (fun cs t fz e => by cases e)
  refine ⟨h.at'.fr k (fun e => ?_), own_fr h.own k hne, h.wts.fr k (fun p hp e => ?_), h.snd, h.files.fr k n1 n2, h.low.trans (k.below (B := w.heap.size) h.low.size (fun q hq e => by omega))⟩
  · have := h.at'.blk
    rw [e, hm] at this; cases this
  · obtain ⟨cur, hb⟩ := wts_block h.wts (b := p.block) (by rw [hp]; rfl)
    rw [e, hm] at hb; cases hb
theorem Ld.done {w wr : World} {C : Nat} {S : St} {g : Gh} {bs bn : Nat} {a : Option Addr} {cap : Nat} {ι2 rb2 : Nat → Option Nat} {lk : List (Value × Chg)} (h : Ld w C S g bs bn a cap wr ι2 rb2 lk) (hI : Inv S) (hcap : cap ≤ maxLen ∧ S.l.length ≤ cap) (hne : bs ≠ bn) (hC : w.heap.size ≤ C) (hbs : w.heap.size ≤ bs) (hbn : w.heap.size ≤ bn) (hrow : ∀ r, (Value.slice a S.l.length cap).ownBlock = some r → w.heap.size ≤ r) (hns : g.ns + S.l.length ≤ S.steps)
    (ho : wr.ownsMap Try.prog 9 (fileR ι2) bn (g.ns + S.l.length) (didTo lk S.Ds S.l.length)) : CloPost S w (.returned (.pointer (some ⟨C, 0, none⟩))) wr := by
  have hl : lk.length = S.l.length := by rw [← h.snd, List.length_map]
  have hD : didTo lk S.Ds S.l.length = S.Dn := by rw [didTo_all, h.snd, List.take_length]; rfl
  rw [hD] at ho
  refine ⟨C, { nm := some bn, sf := some bs, wa := a, wc := cap, l := lk, ι := ι2, rb := rb2, nn := g.ns + S.l.length, ns := g.ns }, rfl, ⟨?_, h.snd, ?_, ?_, .inr ⟨bn, rfl, ho⟩, .inr ⟨bs, rfl, h.own⟩, ?_, fun _ e => ?_, fun e => ?_, h.files.files, h.files.inj, h.files.injr, fun b i hi => ?_, hns, ?_⟩, fun k hk => ?_, h.low⟩
  · have := h.at'
    rw [← hl] at this
    exact this
  · show Wts ι2 wr a lk.length cap lk
    rw [hl]; exact h.wts
  · show cap ≤ maxLen ∧ lk.length ≤ cap
    rw [hl]; exact hcap
  · simp
  · exact hne (Option.some.inj e).symm
  · cases e
  · rcases h.files.org b i hi with ⟨s, hs⟩ | ⟨j, hj, _, e⟩
    · exact hI.num s i hs
    · rcases hI.made _ (List.getElem_mem hj) with e2 | ⟨i', e2, e3⟩
      · rw [e2] at e; omega
      · rw [e2] at e
        have : i' = i := by omega
        show i < S.next
        omega
  · show g.ns + lk.length ≤ S.steps
    rw [hl]; exact hns
  · rcases hk with e | e | e | e | ⟨i, e⟩ | ⟨b, i, e1, e2⟩
    · omega
    · cases e; exact hbn
    · cases e; exact hbs
    · have e : (Value.slice a lk.length cap).ownBlock = some k := e
      rw [hl] at e
      exact hrow k e
    · exact h.files.new k i e
    · exact h.files.newr b i k e1 e2

set_option maxRecDepth 100000 in
set_option maxHeartbeats 4000000 in
theorem clone_any {w : World} {B : Nat} {S : St} {g : Gh} (h : Rep w B S g) (hI : Inv S) (hst : S.steps ≤ 900) :
    Calls Try.prog 9 #[.pointer (some ⟨B, 0, none⟩)] w (CloPost S w) := by
  have hlen : g.l.length = S.l.length := by rw [← h.l, List.length_map]
  have hns := h.ns
  have cc := fun i => h.at'.cell i
  have c0 : w.cell? ⟨B, 0, none⟩ = some (.int .i64 S.d.cap) := by rw [cc]; simp [Dk.cells, Gh.on]
  have c1 : w.cell? ⟨B, 1, none⟩ = some (.int .i64 S.d.used) := by rw [cc]; simp [Dk.cells, Gh.on]
  have c2 : w.cell? ⟨B, 2, none⟩ = some (.map g.nm) := by rw [cc]; simp [Dk.cells, Gh.on]
  have c3 : w.cell? ⟨B, 3, none⟩ = some (.map g.sf) := by rw [cc]; simp [Dk.cells, Gh.on]
  have c4 : w.cell? ⟨B, 4, none⟩ = some (.slice g.wa S.l.length g.wc) := by rw [cc, ← hlen]; simp [Dk.cells, Gh.on]
  have c5 : w.cell? ⟨B, 5, none⟩ = some (.bool S.d.fs) := by rw [cc]; simp [Dk.cells, Gh.on]
  have c6 : w.cell? ⟨B, 6, none⟩ = some (.int .i64 S.d.fl) := by rw [cc]; simp [Dk.cells, Gh.on]
  have c7 : w.cell? ⟨B, 7, none⟩ = some (.bool S.d.gs) := by rw [cc]; simp [Dk.cells, Gh.on]
  have c8 : w.cell? ⟨B, 8, none⟩ = some (.int .i64 S.d.gl) := by rw [cc]; simp [Dk.cells, Gh.on]
  have c9 : w.cell? ⟨B, 9, none⟩ = some (.bool S.d.lost) := by rw [cc]; simp [Dk.cells, Gh.on]
  have H := Lib.hid h
  have HI := Lib.hid hI
  have HST := Lib.hid hst
  have HLEN := Lib.hid hlen
  have hSl : S.l.length ≤ 900 := by omega
  have hBl := h.at'.lt
  have hDa : DkAt (w.alloc (.cells #[.int .i64 S.d.cap, .int .i64 S.d.used, .map g.nm, .map g.sf, .slice g.wa S.l.length g.wc, .bool S.d.fs, .int .i64 S.d.fl, .bool S.d.gs, .int .i64 S.d.gl, .bool S.d.lost] 50)) w.heap.size (g.on S.d) :=
    ⟨by rw [heap_alloc_new]; simp [Dk.cells, Gh.on, hlen], h.at'.ok⟩
  have HDA := Lib.hid hDa
  have hbA : Below w.heap.size w (w.alloc (.cells #[.int .i64 S.d.cap, .int .i64 S.d.used, .map g.nm, .map g.sf, .slice g.wa S.l.length g.wc, .bool S.d.fs, .int .i64 S.d.fl, .bool S.d.gs, .int .i64 S.d.gl, .bool S.d.lost] 50)) := (Below.refl _ _).alloc (Nat.le_refl _) _
  have HBA := Lib.hid hbA
  have RA := Lib.hid (h.later hbA)
  have hcl := cloneT_any RA.out.sf hI.oks RA.out.files (by omega)
  have hsz : (w.alloc (.cells #[.int .i64 S.d.cap, .int .i64 S.d.used, .map g.nm, .map g.sf, .slice g.wa S.l.length g.wc, .bool S.d.fs, .int .i64 S.d.fl, .bool S.d.gs, .int .i64 S.d.gl, .bool S.d.lost] 50)).heap.size = w.heap.size + 1 := by simp
  have HSZ := Lib.hid hsz
  have HNS : Hid (g.ns + S.l.length ≤ S.steps) := by show _ ≤ _; omega
  clear h hI hst cc hlen hns hDa hbA hsz
  go_enter Try.func9, Try.ntmps9
  go_wp2_with fail
  generalize w.alloc (.cells #[.int .i64 S.d.cap, .int .i64 S.d.used, .map g.nm, .map g.sf, .slice g.wa S.l.length g.wc, .bool S.d.fs, .int .i64 S.d.fl, .bool S.d.gs, .int .i64 S.d.gl, .bool S.d.lost] 50) = wa at *
  (with_reducible refine hcl.mono ?_)
  rintro e w1 ⟨bs, ι1, rb1, rfl, p1, p2, p3, p4⟩
  obtain ⟨C, hC⟩ : ∃ C, w.heap.size = C := ⟨_, rfl⟩
  have HC := Lib.hid hC
  rw [hC] at HDA HSZ hBl ⊢
  have D1 := HDA.out.fr (X := fun _ => False) (Fr.of_below p4) (fun h => h)
  have l3 := D1.loose 3
  have m3 : w1.cell? ⟨C, 3, none⟩ = some (.map g.sf) := by rw [D1.cell]; simp [Dk.cells, Gh.on]
  have ok := D1.ok
  have D2 : Hid (DkAt (w1.setCell ⟨C, 3, none⟩ (.map (some bs))) C { g.on S.d with sf := some bs }) := D1.set 3 _ ⟨ok.cap1, ok.cap2, ok.used1, ok.used2, ok.fl1, ok.fl2, ok.gl1, ok.gl2, ok.len⟩ (by simp [Dk.cells])
  have k2 : Fr (fun j => j = C) w1 (w1.setCell ⟨C, 3, none⟩ (.map (some bs))) := Fr.of_only (Only.set C 3 w1 _) rfl
  have hbsC : bs ≠ C := by have := HSZ.out; omega
  have O2 : Hid ((w1.setCell ⟨C, 3, none⟩ (.map (some bs))).ownsMap Try.prog 9 (fileR ι1) bs g.ns S.Ds) := own_fr p2 k2 hbsC
  have hq1 := p3.toq
  obtain ⟨n1, n2⟩ := hq1.not D1.blk (fun cs t fz e => by cases e; decide)
  have Q2 : Hid (Cq w (fun i => ∃ s, At S.Ds s i) ι1 rb1 S.F (w1.setCell ⟨C, 3, none⟩ (.map (some bs)))) := by
    have h1 := hq1.fr k2 n1 n2
    exact ⟨h1.files, fun k i hk => Nat.le_trans HBA.out.size (h1.new k i hk), fun k i r hk hr => Nat.le_trans HBA.out.size (h1.newr k i r hk hr), h1.inj, h1.injr, h1.org⟩
  have R2 : Hid (Rep (w1.setCell ⟨C, 3, none⟩ (.map (some bs))) B S g) := (RA.out.later p4).fr k2 (fun j hj e => by have := H.out.foot_lt hj; have := HC.out; omega)
  have L2 : Hid (Below w.heap.size w (w1.setCell ⟨C, 3, none⟩ (.map (some bs)))) := (HBA.out.trans (p4.mono HBA.out.size)).trans (k2.below (B := w.heap.size) (by have := HBA.out.size; have := p4.size; omega) (fun q hq e => by have := HC.out; omega))
  have HP1 : Hid (wa.heap.size ≤ bs ∧ C < wa.heap.size) := ⟨p1, by have := HSZ.out; omega⟩
  clear p1 p2 p3 p4 D1 ok k2 hq1 n1 n2 hcl hC HDA RA HBA
  go_upto_region 5 with fail
  generalize w1.setCell ⟨C, 3, none⟩ (.map (some bs)) = w2 at *
  clear l3 m3 c0 c1 c2 c3 c4 c5 c6 c7 c8 c9
  have m4 : w2.cell? ⟨B, 4, none⟩ = some (.slice g.wa S.l.length g.wc) := by rw [R2.out.at'.cell, ← HLEN.out]; simp [Dk.cells, Gh.on]
  have hcc := cloneC_any (by have := R2.out.wts; rw [HLEN.out] at this; exact this) (by omega)
  go_wp2_with fail
  (with_reducible refine hcc.mono ?_)
  rintro e w3 ⟨a', c', rfl, q1, q2, q3, q4⟩
  have D3 := D2.out.fr (X := fun _ => False) (Fr.of_below q4) (fun h => h)
  have ok := D3.ok
  have l4 := D3.loose 4
  have m4' : w3.cell? ⟨C, 4, none⟩ = some (.slice g.wa g.l.length g.wc) := by rw [D3.cell]; simp [Dk.cells, Gh.on]
  have k4 : Fr (fun j => j = C) w3 (w3.setCell ⟨C, 4, none⟩ (.slice a' S.l.length c')) := Fr.of_only (Only.set C 4 w3 _) rfl
  have o3 := own_fr O2.out (Fr.of_below (X := fun _ => False) q4) (fun h => h)
  have hrC : ∀ r, (Value.slice a' S.l.length c').ownBlock = some r → w.heap.size ≤ r ∧ r ≠ C := fun r hr => by
    have h1 := q3 r hr
    have h2 := L2.out.size
    refine ⟨by omega, fun e => ?_⟩
    obtain ⟨cur, hb⟩ := wts_block q1 hr
    rw [e, D3.blk] at hb; cases hb
  obtain ⟨n1, n2⟩ := (Q2.out.later q4).not D3.blk (fun cs t fz e => by cases e; decide)
  have HL0 : Hid (Lp w C S g bs a' c' ι1 0 (w3.setCell ⟨C, 4, none⟩ (.slice a' S.l.length c')) ι1 rb1 g.l) := by
    refine ⟨D3.set 4 _ ⟨ok.cap1, ok.cap2, ok.used1, ok.used2, ok.fl1, ok.fl2, ok.gl1, ok.gl2, by show S.l.length ≤ _; omega⟩ (by simp [Dk.cells]), own_fr o3 k4 hbsC, row_fr q1.row k4 (fun r hr e => (hrC r hr).2 e), ⟨R2.out.l, fun j hj h0 => by omega, fun j hj _ => R2.out.wts.ptr _ (List.getElem_mem hj), fun x hx => ?_⟩, fun b i h => h, ((Q2.out.later q4).fr k4 n1 n2).mono fun i hi => .inl hi, (L2.out.trans (q4.mono L2.out.size)).trans (k4.below (B := w.heap.size) (by have := L2.out.size; have := q4.size; omega) (fun q hq e => by have := HC.out; omega))⟩
    rw [← R2.out.l] at hx
    obtain ⟨y, hy, rfl⟩ := List.mem_map.1 hx
    exact R2.out.wts.src y hy
  have HCAP : Hid (c' ≤ maxLen ∧ S.l.length ≤ c') := q2
  have HRC := Lib.hid hrC
  have hcz : (S.l.length : Int) ≤ (c' : Int) := by omega
  have hcm : c' ≤ 9223372036854775807 := by have := q2.1; unfold maxLen at this; omega
  clear q1 q2 q3 q4 D3 ok k4 o3 hrC n1 n2 hcc m4
  go_upto_region 6 with fail
  clear l4 m4'
  generalize w3.setCell ⟨C, 4, none⟩ (.slice a' S.l.length c') = w4 at *
  have m4 : w4.cell? ⟨C, 4, none⟩ = some (.slice a' S.l.length c') := by rw [HL0.out.at'.cell]; simp [Dk.cells]
  have HBS : Hid (w.heap.size ≤ bs) := by have := HP1.out; have := HC.out; show w.heap.size ≤ bs; omega
  have heqn := nep_none
  go_wp2_with fail
  clear m4
  obtain ⟨M, hM⟩ : ∃ M, S.l.length = M := ⟨_, rfl⟩
  have HM := Lib.hid hM
  rw [hM] at hSl hcz ⊢
  clear hM
  go_loopg [28] M (fun gg i wr => ∃ k ι2 rb2 lk, k ≤ M ∧ M - k ≤ gg ∧ i = .int .i64 (k : Int) ∧ Hid (Lp w C S g bs a' c' ι1 k wr ι2 rb2 lk))
  case atStart => exact ⟨0, ι1, rb1, g.l, by omega, by omega, rfl, HL0.out⟩
  case round =>
    obtain ⟨k, ι2, rb2, lk, hkM, hgg, rfl, HL⟩ := hrel
    by_cases hlt : k < M
    · have hltz : (k : Int) < (M : Int) := by omega
      have hkl : k < lk.length := by rw [HL.out.half.len, HM.out]; exact hlt
      obtain ⟨r0, rfl⟩ : ∃ r0, a' = some ⟨r0, 0, none⟩ := by
        rcases HL.out.row.2 with ⟨_, h0⟩ | ⟨gg, cap, cur, hv, _⟩
        · rw [HM.out] at h0; omega
        · cases hv; exact ⟨_, rfl⟩
      obtain ⟨s0, s1, s2⟩ : wr.cell? ⟨r0, k * 3, none⟩ = some lk[k].1 ∧ wr.cell? ⟨r0, k * 3 + 1, none⟩ = some (.string lk[k].2.src) ∧ wr.cell? ⟨r0, k * 3 + 2, none⟩ = some (.string lk[k].2.dst) := by
        obtain ⟨e0, e1, e2⟩ := encC_at hkl
        have hl := HL.out.half.len
        have hc := fun j => HL.out.row.cellAt j
        refine ⟨?_, ?_, ?_⟩
        · rw [hc _ (by omega)]; exact e0
        · rw [hc _ (by omega)]; exact e1
        · rw [hc _ (by omega)]; exact e2
      have hv := HL.out.half.high k hkl (Nat.le_refl _)
      rcases fileR_inv hv with ⟨ev, em⟩ | ⟨bf, i, ev, hi, em⟩
      · have HN := Lib.hid (HL.out.skip hkl ev)
        rw [ev] at s0
        generalize lk[k].2 = c at *
        clear hv ev em hkl
        go_wp2_with fail
        go_roundg (M - (k + 1))
        case measure => omega
        case rel => exact ⟨k + 1, ι2, rb2, lk, by omega, Nat.le_refl _, by first | rfl | go_num, HN.out.later ((Below.refl _ _).alloc (Nat.le_refl _) _)⟩
      · have hm : lk[k].2.made = (i : Int) := idD_inj (congrArg Prod.fst em)
        have HSTEP : Hid (∀ w5 w8 b2 r2, wr.heap.size ≤ b2 → (∀ j, r2 = some j → wr.heap.size ≤ j ∧ j ≠ b2) → FileAt w5 b2 r2 (S.F i) → Below wr.heap.size wr w5 → Below w5.heap.size w5 w8 →
            Lp w C S g bs (some ⟨r0, 0, none⟩) c' ι1 (k + 1) (w8.setCell ⟨r0, k * 3, none⟩ (.pointer (some ⟨b2, 0, none⟩))) (upd ι2 b2 (some i)) (upd rb2 i r2) (lk.set k (.pointer (some ⟨b2, 0, none⟩), lk[k].2))) := fun w5 w8 b2 r2 z1 z2 z3 z4 z5 =>
          HL.out.step HI.out hkl hm z1 z2 z3 z4 z5 (by have := HC.out; omega) (HRC.out r0 rfl).1 HBS.out
        have HFI := Lib.hid ((H.out.later HL.out.low).files bf i hi)
        have hes := nep_some bf
        rw [ev] at s0
        generalize lk[k].2 = c at *
        have m4 : wr.cell? ⟨C, 4, none⟩ = some (.slice (some ⟨r0, 0, none⟩) M c') := by rw [HL.out.at'.cell, ← HM.out]; simp [Dk.cells]
        have hrb : ∃ cur, wr.heap[r0]? = some (.cells cur 61 (0, 0)) := by
          rcases HL.out.row.2 with ⟨h0, _⟩ | ⟨gg, cap', cur, hv, _, hg, _⟩
          · cases h0
          · cases hv; exact ⟨cur, hg⟩
        have HRB := Lib.hid hrb
        have HS0 := Lib.hid s0
        clear hv ev em hkl hm hi hrb
        go_upto_region 10 with fail
        have hbw : Below wr.heap.size wr (wr.alloc (.cells #[.pointer (some ⟨bf, 0, none⟩), .string c.src, .string c.dst] 61)) := (Below.refl _ _).alloc (Nat.le_refl _) _
        have HBW := Lib.hid hbw
        have t0 : (wr.alloc (.cells #[.pointer (some ⟨bf, 0, none⟩), .string c.src, .string c.dst] 61)).cell? ⟨wr.heap.size, 0, none⟩ = some (.pointer (some ⟨bf, 0, none⟩)) := by simp
        have m4' := (World.cell?_alloc_lt wr (.cells #[.pointer (some ⟨bf, 0, none⟩), .string c.src, .string c.dst] 61) (a := ⟨C, 4, none⟩) HL.out.at'.lt).trans m4
        generalize wr.alloc (.cells #[.pointer (some ⟨bf, 0, none⟩), .string c.src, .string c.dst] 61) = wb at *
        have HWZ : Hid (wr.heap.size ≤ wb.heap.size) := hbw.size
        generalize hgq : wr.heap.size = gq at *
        have HGQ := Lib.hid hgq
        have e0 := cell_up t0
        have e1 := cell_up m4'
        clear t0 m4' m4 s0 s1 s2 hbw hgq
        refine growT_begin 8 (by kernel_rfl) ?_
        refine growT_take (by kernel_rfl) [0, 1, 2, 3, 4] 4 _ _ (by kernel_rfl) ?_
        simp only [opsAt, List.getElem?_toArray, List.getElem?_cons_succ, List.getElem?_cons_zero]
        repeat (first | go_big_quiet_step (fail) | quiet_step (fail))
        refine wpQuiet_nil ?_
        intro w5 hw5
        have hb5 := below_of_up hw5
        have hB5 : Below wr.heap.size wr w5 := by rw [HGQ.out]; exact HBW.out.trans (hb5.mono HWZ.out)
        have HB5 := Lib.hid hB5
        have hf5 := HFI.out.fr (X := fun _ => False) (Fr.of_below hB5) (fun h => h) (fun _ _ h => h)
        clear e0 e1
        refine growT_one 5 (by kernel_rfl) hw5 (fun K hK => ?_)
        simp only [stepOf, List.getElem?_toArray, List.getElem?_cons_succ, List.getElem?_cons_zero]
        go_simp
        go_at_call 27
        refine (cloneF_any hf5).mono ?_
        rintro e w6 ⟨b2, r2, rfl, z1, z2, z3, z4⟩
        have HZ := Lib.hid (And.intro z1 (And.intro z2 (And.intro z3 z4)))
        refine hK.out _ _ z4 ?_
        clear hK K z1 z2 z3 z4 hf5 hB5 hb5 hw5
        refine growT_take (by kernel_rfl) [6, 7] 1 _ _ (by kernel_rfl) ?_
        simp only [opsAt, List.getElem?_toArray, List.getElem?_cons_succ, List.getElem?_cons_zero]
        repeat (first | go_big_quiet_step (fail) | quiet_step (fail))
        refine wpQuiet_nil ?_
        intro w8 hw8
        have hb8 : Below w6.heap.size w6 w8 := below_of_up hw8
        have hz5 := HB5.out.size
        have HN := Lib.hid (HSTEP.out w6 w8 b2 r2 (by have := HZ.out.1; have := HGQ.out; omega) (fun j hj => ⟨by have := (HZ.out.2.1 j hj).1; have := HGQ.out; omega, (HZ.out.2.1 j hj).2⟩) HZ.out.2.2.1 (by rw [← HGQ.out]; exact HB5.out.trans (HZ.out.2.2.2.mono hz5)) hb8)
        obtain ⟨cur, hcur⟩ := HRB.out
        have hcur8 := (((HB5.out.trans (HZ.out.2.2.2.mono hz5)).trans (hb8.mono (Nat.le_trans hz5 HZ.out.2.2.2.size))).block r0 (blk_lt hcur)).trans hcur
        have k2 := unfrozen_of_block hcur8 (k * 3)
        have k1 : w8.cell? ⟨r0, k * 3, none⟩ = some (.pointer (some ⟨bf, 0, none⟩)) := by
          rw [World.cell?_of_block (w := wr) (hcur8.trans hcur.symm)]
          exact HS0.out
        clear hb8 hw8 hz5 hcur hcur8
        refine growT_last (by kernel_rfl) (by kernel_rfl) (fun K hK => ?_)
        simp only [stepOf, List.getElem?_toArray, List.getElem?_cons_succ, List.getElem?_cons_zero]
        go_simp
        refine hK.out _ _ ?_
        clear hK K k1 k2
        go_wp2_with fail
        go_roundg (M - (k + 1))
        case measure => omega
        case rel => exact ⟨k + 1, _, _, _, by omega, Nat.le_refl _, by first | rfl | go_num, HN.out⟩
    · obtain rfl : k = M := by omega
      have hltz : ¬ (k : Int) < (k : Int) := by omega
      have m3 : wr.cell? ⟨C, 3, none⟩ = some (.map (some bs)) := by rw [HL.out.at'.cell]; simp [Dk.cells]
      have hcm2 := cloneM_any (t := some bs) (.inr ⟨bs, rfl, own_mono HL.out.up HL.out.own⟩ : Tab ι2 wr (some bs) g.ns S.Ds)
      go_wp2_with fail
      (with_reducible refine hcm2.mono ?_)
      rintro e w5 ⟨t, rfl, y1, y2, y3, y4⟩
      obtain ⟨bn, rfl⟩ : ∃ bn, t = some bn := by
        cases t with
        | none => exact absurd (y2.1 rfl) (by simp)
        | some b => exact ⟨b, rfl⟩
      have HLk : Hid (Lp w C S g bs a' c' ι1 S.l.length wr ι2 rb2 lk) := by
        have := HL.out
        rwa [← HM.out] at this
      obtain ⟨hLd, k1, k2⟩ := HLk.out.named (bn := bn) y4 (by have := HC.out; omega)
      have hbn := y3 bn rfl
      have hbsl : bs < wr.heap.size := HL.out.own.lt
      have hCl := HL.out.at'.lt
      have hLw := HL.out.low.size
      have hown : (w5.setCell ⟨C, 2, none⟩ (.map (some bn))).ownsMap Try.prog 9 (fileR ι2) bn g.ns S.Ds := by
        rcases y1 with ⟨h1, _⟩ | ⟨b, h1, h2⟩
        · cases h1
        · cases h1
          exact own_fr h2 (Fr.of_only (X := fun j => j = C) (Only.set C 2 w5 _) rfl) (fun e => by omega)
      have HLD := Lib.hid hLd
      have HOWN := Lib.hid hown
      have HNE : Hid (bs ≠ bn ∧ w.heap.size ≤ bn) := ⟨by omega, by omega⟩
      clear hLd hown y1 y2 y3 y4 hbn hbsl hCl hLw hcm2 m3
      go_upto_region 13 with fail
      clear k1 k2
      generalize w5.setCell ⟨C, 2, none⟩ (.map (some bn)) = w6 at *
      have m4 : w6.cell? ⟨C, 4, none⟩ = some (.slice a' k c') := by rw [HLD.out.at'.cell, ← HM.out]; simp [Dk.cells]
      obtain ⟨wo, hwo⟩ : ∃ wo, wo = wr := ⟨_, rfl⟩
      rw [← hwo] at HL HLk
      clear hwo
      go_wp2_with fail
      clear m4
      have HMAP : Hid (∃ es clock, w6.heap[bn]? = some (.map es clock)) := by
        obtain ⟨es, clock, hm, _⟩ := HOWN.out
        exact ⟨es, clock, hm⟩
      go_loopg [52] k (fun gg i wr => ∃ q, q ≤ k ∧ k - q ≤ gg ∧ i = .int .i64 (q : Int) ∧ Hid (wr.ownsMap Try.prog 9 (fileR ι2) bn (g.ns + q) (didTo lk S.Ds q)) ∧ Hid (Fr (fun j => j = bn) w6 wr))
      case atStart => exact ⟨0, by omega, by omega, rfl, HOWN.out, Fr.refl _ _⟩
      case round =>
        obtain ⟨q, hqk, hqg, rfl, HO, HF⟩ := hrel
        obtain ⟨es, clock, hmap⟩ := HMAP.out
        have hL := HLD.out.fr HF.out hmap HNE.out.1 HNE.out.2
        have hll : lk.length = k := by have := hL.wts.len; rw [this]; exact HM.out
        by_cases hlt : q < k
        · have hltz : (q : Int) < (k : Int) := by omega
          have hql : q < lk.length := by omega
          obtain ⟨r0, cur, rfl, _⟩ := hL.wts.some (by rw [HM.out]; omega)
          obtain ⟨s0, s1, s2⟩ := hL.wts.cells hql
          have hp := hL.wts.ptr _ (List.getElem_mem hql)
          have hsz := hL.wts.src _ (List.getElem_mem hql)
          have HDS := Lib.hid (didTo_succ (D := S.Ds) hql)
          have m2 : wr.cell? ⟨C, 2, none⟩ = some (.map (some bn)) := by rw [hL.at'.cell]; simp [Dk.cells]
          have HP := Lib.hid hp
          have HSZ2 := Lib.hid hsz
          have hns := HNS.out
          have hst := HST.out
          have HAP : Hid (∀ (w8 : World) (c : Chg) (p : Value), fileR ι2 p = some (idD c.made, []) → c.src.size ≤ maxLen → c.dst.size ≤ maxLen → w8.ownsMap Try.prog 9 (fileR ι2) bn (g.ns + q) (didTo lk S.Ds q) → Calls Try.prog 29 #[c.val p, .map (some bn)] w8 fun e w' => e = .returned (.tuple #[]) ∧ w'.ownsMap Try.prog 9 (fileR ι2) bn (g.ns + q + 1) (c.did (didTo lk S.Ds q)) ∧ w8.grownBy w' (some bn)) :=
            fun w8 c p h1 h2 h3 h4 => apply_any ι2 bn (g.ns + q) (didTo lk S.Ds q) c p w8 h1 h2 h3 (by rw [HM.out] at hns; unfold maxLen; omega) h4
          generalize lk[q] = x at *
          obtain ⟨p, c⟩ := x
          simp only at s0 s1 s2 HP HSZ2 HDS
          obtain ⟨pa, rfl⟩ : ∃ pa : Option Addr, p = .pointer pa := by
            rcases fileR_inv HP.out with ⟨rfl, _⟩ | ⟨b', _, rfl, _⟩
            · exact ⟨_, rfl⟩
            · exact ⟨_, rfl⟩
          have HCl := Lib.hid hL.at'.lt
          clear hp hsz hL hll hql hmap hns hst
          go_upto_region 16 with fail
          have hbw : Below wr.heap.size wr (wr.alloc (.cells #[.pointer pa, .string c.src, .string c.dst] 61)) := (Below.refl _ _).alloc (Nat.le_refl _) _
          have t0 : (wr.alloc (.cells #[.pointer pa, .string c.src, .string c.dst] 61)).cell? ⟨wr.heap.size, 0, none⟩ = some (.pointer pa) := by simp
          have t1 : (wr.alloc (.cells #[.pointer pa, .string c.src, .string c.dst] 61)).cell? ⟨wr.heap.size, 1, none⟩ = some (.string c.src) := by simp
          have t2 : (wr.alloc (.cells #[.pointer pa, .string c.src, .string c.dst] 61)).cell? ⟨wr.heap.size, 2, none⟩ = some (.string c.dst) := by simp
          have m2' := (World.cell?_alloc_lt wr (.cells #[.pointer pa, .string c.src, .string c.dst] 61) (a := ⟨C, 2, none⟩) HCl.out).trans m2
          have hap := HAP.out _ c (.pointer pa) HP.out HSZ2.out.1 HSZ2.out.2 (HO.out.alloc (.cells #[.pointer pa, .string c.src, .string c.dst] 61))
          have HF2 := Lib.hid (HF.out.later hbw)
          unfold Chg.val at hap
          clear s0 s1 s2 m2 hbw
          generalize wr.alloc (.cells #[.pointer pa, .string c.src, .string c.dst] 61) = w7 at *
          go_wp2_with fail
          (with_reducible refine hap.mono ?_)
          rintro e w9 ⟨rfl, z1, z2⟩
          have HO9 : Hid (w9.ownsMap Try.prog 9 (fileR ι2) bn (g.ns + (q + 1)) (didTo lk S.Ds (q + 1))) := by
            show _
            rw [HDS.out]; exact z1
          have HF9 : Hid (Fr (fun j => j = bn) w6 w9) := HF2.out.trans (Fr.of_grown z2 fun b e => (Option.some.inj e).symm)
          clear z1 z2 hap t0 t1 t2 m2'
          go_wp2_with fail
          go_roundg (k - (q + 1))
          case measure => omega
          case rel => exact ⟨q + 1, by omega, Nat.le_refl _, by first | rfl | go_num, HO9.out, HF9.out⟩
        · obtain rfl : q = k := by omega
          have hltz : ¬ (q : Int) < (q : Int) := by omega
          have HP : Hid (CloPost S w (.returned (.pointer (some ⟨C, 0, none⟩))) wr) := by
            refine hL.done HI.out HCAP.out HNE.out.1 (by have := HC.out; omega) HBS.out HNE.out.2 (fun r hr => (HRC.out r hr).1) HNS.out ?_
            rw [HM.out]; exact HO.out
          clear hL hmap
          go_wp2_with fail
          go_ret
          exact HP.out
end Go.Proofs.Ytoiggdcgfbjhpaa
