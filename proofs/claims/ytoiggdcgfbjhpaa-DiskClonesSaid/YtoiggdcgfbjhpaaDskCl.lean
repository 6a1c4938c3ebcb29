/-
  table.clone: a table with a copy of each file.
-/
import Derived.Test.YtoiggdcgfbjhpaaDskK
namespace Go.Proofs.Ytoiggdcgfbjhpaa
open Go.ChangeShapes Go.WideShapes Go.ChangeAt Go.RowKit Go.Joins
set_option linter.unusedVariables false

/-- Copies of the files whose names have come; each in new memory. -/
structure Cp (W0 : World) (D : DM) (left : Lit → Bool) (ι rb : Nat → Option Nat) (F : Nat → Fl) (w : World) : Prop where
  files : Files ι rb F w
  new : ∀ k i, ι k = some i → W0.heap.size ≤ k
  newr : ∀ k i r, ι k = some i → rb i = some r → W0.heap.size ≤ r
  inj : ∀ b b' i, ι b = some i → ι b' = some i → b = b'
  injr : ∀ b b' i j r, ι b = some i → ι b' = some j → rb i = some r → rb j = some r → i = j
  org : ∀ k i, ι k = some i → ∃ s, At D s i ∧ left (keyD s) = false
theorem Cp.lt {W0 w : World} {D : DM} {left : Lit → Bool} {ι rb : Nat → Option Nat} {F : Nat → Fl} (h : Cp W0 D left ι rb F w) {k i : Nat} (hk : ι k = some i) : k < w.heap.size := by
  obtain ⟨_, hb⟩ := (h.files k i hk).block
  exact blk_lt hb
theorem Cp.start (W0 : World) (D : DM) (left : Lit → Bool) (F : Nat → Fl) (w : World) : Cp W0 D left (fun _ => none) (fun _ => none) F w :=
  ⟨fun b i h => (by cases h), fun k i h => (by cases h), fun k i r h => (by cases h), fun b b' i h => (by cases h), fun b b' i j r h => (by cases h), fun k i h => (by cases h)⟩
theorem Cp.later {W0 w w' : World} {D : DM} {left : Lit → Bool} {ι rb : Nat → Option Nat} {F : Nat → Fl} (h : Cp W0 D left ι rb F w) {X : Nat → Prop} (k : Fr X w w') (h1 : ∀ b i, ι b = some i → ¬ X b) (h2 : ∀ b i r, ι b = some i → rb i = some r → ¬ X r) : Cp W0 D left ι rb F w' :=
  ⟨h.files.fr k (fun b i hi => h1 b i hi) (fun b i hi r hr => h2 b i r hi hr), h.new, h.newr, h.inj, h.injr, h.org⟩
/-- A copy more. -/
theorem Cp.more {W0 w w' : World} {D : DM} {left : Lit → Bool} {ι rb : Nat → Option Nat} {F : Nat → Fl} (h : Cp W0 D left ι rb F w) (hD : OkD D) {s : ByteArray} {i b : Nat} {r : Option Nat} (hat : At D s i) (hl : left (keyD s) = true) (hW : W0.heap.size ≤ w.heap.size)
    (hb : w.heap.size ≤ b) (hr : ∀ k, r = some k → w.heap.size ≤ k ∧ k ≠ b) (hf : FileAt w' b r (F i)) (k : Below w.heap.size w w') :
    Cp W0 D (fun z => left z && !z.sameKey (keyD s)) (upd ι b (some i)) (upd rb i r) F w' ∧ ∀ b' j, ι b' = some j → upd ι b (some i) b' = some j := by
  have hno : ∀ b' , ι b' ≠ some i := fun b' e => by
    obtain ⟨t, ht, hlt⟩ := h.org b' i e
    rw [hD.one t s i ht hat] at hlt
    rw [hl] at hlt; cases hlt
  have hlt := fun {b' j : Nat} (e : ι b' = some j) => h.lt e
  have hinv : ∀ {b' j : Nat}, upd ι b (some i) b' = some j → (b' = b ∧ j = i) ∨ (b' ≠ b ∧ j ≠ i ∧ ι b' = some j) := fun {b' j} e => by
    by_cases e1 : b' = b
    · subst e1
      rw [upd_same] at e
      exact .inl ⟨rfl, (Option.some.inj e).symm⟩
    · rw [upd_other _ _ e1] at e
      exact .inr ⟨e1, fun e2 => hno b' (by rw [← e2]; exact e), e⟩
  have hblk : ∀ {b' j r' : Nat}, ι b' = some j → rb j = some r' → r' < w.heap.size := fun {b' j r'} e1 e2 => by
    obtain ⟨_, h5⟩ := (h.files b' j e1).bytesBlock e2
    exact blk_lt h5
  refine ⟨⟨fun b' j hj => ?_, fun b' j hj => ?_, fun b' j r' hj hr' => ?_, fun b1 b2 j h1 h2 => ?_, fun b1 b2 j1 j2 r' h1 h2 h3 h4 => ?_, fun b' j hj => ?_⟩, fun b' j hj => ?_⟩
  · rcases hinv hj with ⟨rfl, rfl⟩ | ⟨e1, e2, e3⟩
    · rw [upd_same]; exact hf
    · rw [upd_other _ _ e2]
      exact (h.files b' j e3).fr (X := fun _ => False) (Fr.of_below k) (fun h => h) (fun _ _ h => h)
  · rcases hinv hj with ⟨rfl, rfl⟩ | ⟨e1, e2, e3⟩
    · omega
    · exact h.new b' j e3
  · rcases hinv hj with ⟨rfl, rfl⟩ | ⟨e1, e2, e3⟩
    · rw [upd_same] at hr'
      have := (hr r' hr').1; omega
    · rw [upd_other _ _ e2] at hr'
      exact h.newr b' j r' e3 hr'
  · rcases hinv h1 with ⟨rfl, rfl⟩ | ⟨e1, e2, e3⟩ <;> rcases hinv h2 with ⟨rfl, e4⟩ | ⟨e5, e6, e7⟩
    · rfl
    · exact absurd rfl e6
    · exact absurd e4 e2
    · exact h.inj _ _ _ e3 e7
  · rcases hinv h1 with ⟨rfl, rfl⟩ | ⟨e1, e2, e3⟩ <;> rcases hinv h2 with ⟨e4, e5⟩ | ⟨e5, e6, e7⟩
    · exact e5.symm
    · rw [upd_same] at h3
      rw [upd_other _ _ e6] at h4
      have := (hr r' h3).1
      have := hblk e7 h4
      omega
    · subst e5
      rw [upd_same] at h4
      rw [upd_other _ _ e2] at h3
      have := (hr r' h4).1
      have := hblk e3 h3
      omega
    · rw [upd_other _ _ e2] at h3
      rw [upd_other _ _ e6] at h4
      exact h.injr _ _ _ _ _ e3 e7 h3 h4
  · rcases hinv hj with ⟨rfl, rfl⟩ | ⟨e1, e2, e3⟩
    · exact ⟨s, hat, by rw [WideAt.sameKey_self (keyD_lit s)]; simp⟩
    · obtain ⟨t, ht, hlt2⟩ := h.org b' j e3
      exact ⟨t, ht, by rw [hlt2]; rfl⟩
  · have := hlt hj
    rw [upd_other _ _ (by omega)]; exact hj

/-- What table.clone gives. -/
def ClonePost (D : DM) (F : Nat → Fl) (n : Nat) (w : World) (e : Ending) (w' : World) : Prop :=
  ∃ b ι rb, e = .returned (.map (some b)) ∧ w.heap.size ≤ b ∧ w'.ownsMap Try.prog 9 (fileR ι) b n D ∧ Cp w D (fun _ => false) ι rb F w' ∧ Below w.heap.size w w'

theorem below_grown {w w' : World} (h : Below w.heap.size w w') : w.grownBy w' none := ⟨h.os, h.tape, h.output, h.size, fun i hi _ => h.block i hi⟩
theorem Cp.not_map {W0 w : World} {D : DM} {left : Lit → Bool} {ι rb : Nat → Option Nat} {F : Nat → Fl} (h : Cp W0 D left ι rb F w) {m : Nat} {es : Array MapEntry} {clock : Nat} (hm : w.heap[m]? = some (.map es clock)) :
    (∀ b i, ι b = some i → b ≠ m) ∧ ∀ b i r, ι b = some i → rb i = some r → r ≠ m := by
  refine ⟨fun b i hi e => ?_, fun b i r hi hr e => ?_⟩
  · obtain ⟨_, h1⟩ := (h.files b i hi).block
    rw [e, hm] at h1; cases h1
  · obtain ⟨_, h1⟩ := (h.files b i hi).bytesBlock hr
    rw [e, hm] at h1; cases h1
theorem keyOf_inv {key : Value} {kl : Lit} (h : keyOf Try.prog 9 key = some kl) : ∃ s : ByteArray, key = .string s ∧ kl = keyD s ∧ s.size ≤ maxLen := by
  obtain ⟨x, rfl, rfl, h3⟩ := Maps.keyOf_str Try.underlying9 h
  exact ⟨⟨x.toArray⟩, rfl, by simp [keyD], by show x.toArray.size ≤ maxLen; simpa using h3⟩

set_option maxRecDepth 100000 in
set_option maxHeartbeats 4000000 in
theorem cloneT_some {ι rb : Nat → Option Nat} {F : Nat → Fl} {w : World} {bm n : Nat} {D : DM} (hown : w.ownsMap Try.prog 9 (fileR ι) bm n D) (hD : OkD D) (hf : Files ι rb F w) (hn : n ≤ 100000) :
    Calls Try.prog 25 #[.map (some bm)] w (ClonePost D F n w) := by
  have HF := Lib.hid hf
  have HD := Lib.hid hD
  have HO := Lib.hid hown
  have hsz := hown.size_le
  have hmk : ∀ (k : Nat) (w : World), (Instr.makeMap 45 (some (.int .i64 (k : Int)))).run Try.prog w = .ok (.map (some w.heap.size)) (w.alloc (.map #[] 0)) := fun k w => rfl
  have HOA : Hid ((w.alloc (.map #[] 0)).ownsMap Try.prog 9 (fileR ι) bm n D) := hown.alloc _
  have hMk := World.ownsMap_made w Try.prog 9 (fileR (fun _ => none))
  have HMK := Lib.hid hMk
  clear hf hD hown hMk
  go_enter Try.func25, Try.ntmps25
  go_wp2_with (first
    | (at_len; refine wpList_len_own _ rfl _ _ rfl _ _ Try.underlying45 _ bm n D rfl HO.out ?_)
    | (at_range; refine wpList_range_own _ rfl _ 45 rfl 9 59 keyedS Try.underlying45 _ bm n D rfl HOA.out ?_; intro w0 hrg0 hg0 hs0))
  go_frame
  have hB0 : Below w.heap.size w w0 := ((Below.refl w.heap.size w).alloc (Nat.le_refl _) _).trans (by
    have h1 : (w.alloc (.map #[] 0)).heap.size = w.heap.size + 1 := by simp
    exact ⟨hg0.os, hg0.tape, hg0.output, hg0.size, fun k hk => hg0.block k (by omega) (by simp)⟩)
  have hm0 : w0.ownsMap Try.prog 9 (fileR (fun _ => none)) w.heap.size 0 (.map []) := HMK.out.kept hg0 (by simp)
  have HS := Lib.hid (show ∃ (left : Lit → Bool) (cnt k : Nat) (ι2 rb2 : Nat → Option Nat) (Dout : DM), w0.ranges Try.prog 9 (fileR ι) bm (w.alloc (.map #[] 0)).heap.size n D left cnt ∧ k + cnt ≤ n ∧ w0.ownsMap Try.prog 9 (fileR ι2) w.heap.size k Dout ∧ Maps.Agree Dout D left ∧ Cp w D left ι2 rb2 F w0 ∧ Below w.heap.size w w0 from
    ⟨_, _, 0, _, _, _, hrg0, by omega, hm0, Maps.agree_start D, Cp.start w D _ F w0, hB0⟩)
  have hz1 : (w.alloc (.map #[] 0)).heap.size = w.heap.size + 1 := by simp
  obtain ⟨r, hr⟩ : ∃ r, (w.alloc (.map #[] 0)).heap.size = r := ⟨_, rfl⟩
  rw [hr] at HS hz1 ⊢
  have HBM := Lib.hid HO.out.lt
  have HZ1 := Lib.hid hz1
  clear hz1 hrg0 hg0 hs0 hB0 hm0 HMK HOA hr
  go_loopw [4] (fun _ wr => ∃ (left : Lit → Bool) (cnt k : Nat) (ι2 rb2 : Nat → Option Nat) (Dout : DM), wr.ranges Try.prog 9 (fileR ι) bm r n D left cnt ∧ k + cnt ≤ n ∧ wr.ownsMap Try.prog 9 (fileR ι2) w.heap.size k Dout ∧ Maps.Agree Dout D left ∧ Cp w D left ι2 rb2 F wr ∧ Below w.heap.size w wr)
    (fun _ wr => wr.rangeLeft bm r)
  case atStart => exact HS.out
  case round =>
    obtain ⟨left, cnt, k, ι2, rb2, Dout, hrg, hk, hout, hA, hcp, hlow⟩ := hrel
    have HR := Lib.hid hrg
    have HOUT := Lib.hid hout
    have HA := Lib.hid hA
    have HCP := Lib.hid hcp
    have HLOW := Lib.hid hlow
    clear hrg hout hA hcp hlow
    go_wp2_with (at_next; refine wpList_next_ranges _ rfl _ rfl 9 keyedS (fileR ι) Value.string Value.pointer (fun key kl hk => by obtain ⟨s, e, _⟩ := keyOf_inv hk; exact ⟨s, e⟩) (fun v y hv => by rcases fileR_inv hv with ⟨e, _⟩ | ⟨b, _, e, _⟩ <;> exact ⟨_, e⟩) bm r n D left cnt rfl HR.out ?_ ?_)
    · intro _ hl0
      have hLe : left = fun _ => false := funext hl0
      have hDD : Dout = D := Maps.agree_end HA.out hl0 (HOUT.out.canon keyedS) (HO.out.canon keyedS)
      have HP : Hid (ClonePost D F n w (.returned (.map (some w.heap.size))) wr) := by
        refine ⟨w.heap.size, ι2, rb2, rfl, Nat.le_refl _, ?_, ?_, HLOW.out⟩
        · rw [← hDD]; exact HOUT.out.mono (by omega)
        · rw [← hLe]; exact HCP.out
      clear hl0 hLe hDD
      go_wp2_with fail
      go_ret
      exact HP.out
    · intro x c kl y ps w1 cnt1 hkey hlk hv hat hrg1 hlt hg1 hs1 hen
      obtain ⟨x', ex, rfl, hxs⟩ := keyOf_inv hkey
      cases ex
      obtain ⟨i, hi⟩ := HD.out.all x (Maps.has_true_of_atKey hat)
      have hy : y = idD (i : Int) := (hat .nil).symm.trans (hi .nil)
      obtain ⟨bf, j, ec, hj, ey⟩ : ∃ b j, Value.pointer c = .pointer (some ⟨b, 0, none⟩) ∧ ι b = some j ∧ (y, ps) = (idD (j : Int), []) := by
        rcases fileR_inv hv with ⟨_, e⟩ | h
        · have e : y = idD (-1) := congrArg Prod.fst e
          rw [e] at hy
          have := idD_inj hy
          omega
        · exact h
      cases ec
      obtain rfl : j = i := by
        have ey : y = idD (j : Int) := congrArg Prod.fst ey
        rw [ey] at hy
        have := idD_inj hy
        omega
      have hr1 := HZ1.out
      have hb1 : Below w.heap.size wr w1 := ⟨hg1.os, hg1.tape, hg1.output, hg1.size, fun q hq => hg1.block q (by have := HLOW.out.size; omega) (by simp; omega)⟩
      have hF1 : FileAt w1 bf (rb j) (F j) := (HF.out bf j hj).fr (X := fun _ => False) (Fr.of_below (HLOW.out.trans hb1)) (fun h => h) (fun _ _ h => h)
      have hcl := cloneF_any hF1
      have H1 : Hid (w1.ranges Try.prog 9 (fileR ι) bm r n D (fun z => left z && !z.sameKey (keyD x)) cnt1 ∧ cnt1 < cnt ∧ At D x j ∧ left (keyD x) = true ∧ (∀ zd, D.atKey (keyD x) zd = idD (j : Int)) ∧ Below w.heap.size w w1) := ⟨hrg1, hlt, hi, hlk, hi, HLOW.out.trans hb1⟩
      have HK := Lib.hid hkey
      have hout1 : w1.ownsMap Try.prog 9 (fileR ι2) w.heap.size k Dout := HOUT.out.kept hg1 (by simp; omega)
      have hcp1 : Cp w D left ι2 rb2 F w1 := HCP.out.later (X := fun q => q = r) ⟨hg1.os, hg1.tape, hg1.output, hg1.size, fun q hq hx => hg1.block q hq (fun e => hx (Option.some.inj e))⟩
        (fun b' i' h' e => by
          obtain ⟨_, h5⟩ := (HCP.out.files b' i' h').block
          obtain ⟨es, clock, since, seen, c0, _, _, _, _, h6, _⟩ := HR.out
          rw [e, h6] at h5; cases h5)
        (fun b' i' r' h' h'' e => by
          obtain ⟨_, h5⟩ := (HCP.out.files b' i' h').bytesBlock h''
          obtain ⟨es, clock, since, seen, c0, _, _, _, _, h6, _⟩ := HR.out
          rw [e, h6] at h5; cases h5)
      have HOUT1 := Lib.hid hout1
      have HCP1 := Lib.hid hcp1
      have HEN := Lib.hid hen
      clear hkey hlk hv hat hrg1 hlt hg1 hs1 hi hy hj hb1 hF1 hout1 hcp1 ey hxs hr1
      go_wp2_with (first
        | (go_at_call 27; refine hcl.mono ?_; rintro e w2 ⟨b2, r2, rfl, q1, q2, q3, q4⟩; have hmore := HCP1.out.more HD.out H1.out.2.2.1 H1.out.2.2.2.1 H1.out.2.2.2.2.2.size q1 q2 q3 q4; have HM := Lib.hid hmore; have HO2 := Lib.hid (own_mono hmore.2 (HOUT1.out.kept (below_grown q4) (by simp))); have HV2 : Hid (fileR (upd ι2 b2 (some j)) (.pointer (some ⟨b2, 0, none⟩)) = some (idD (j : Int), [])) := (by show _ = _; simp [fileR, upd_same]); have HQ := Lib.hid q4; clear hmore q1 q2 q3 q4)
        | (at_mapUpdate; refine wpList_mapUpdate_own _ rfl _ _ _ _ rfl _ _ keyedS Try.underlying45 _ w.heap.size k _ rfl HO2.out (by unfold maxLen; omega) _ _ _ rfl rfl HK.out _ _ HV2.out ?_; intro w3 hown3 hgrow3; go_frame))
      have hHeap := HOUT1.out.lt
      have hFr3 : Fr (fun q => q = w.heap.size) w2 w3 := Fr.of_grown hgrow3 (fun b e => (Option.some.inj e).symm)
      obtain ⟨es2, clock2, hm2, _⟩ := HO2.out
      obtain ⟨nm1, nm2⟩ := HM.out.1.not_map hm2
      have hCp3 := HM.out.1.later hFr3 nm1 nm2
      have hr3 : w3.ranges Try.prog 9 (fileR ι) bm r n D (fun z => left z && !z.sameKey (keyD x)) cnt1 := by
        have h1 := H1.out.1.kept (below_grown HQ.out) (by simp) (by simp)
        have := HBM.out
        have := HZ1.out
        exact h1.kept hgrow3 (fun e => by have := Option.some.inj e; omega) (fun e => by have := Option.some.inj e; omega)
      have hA3 := Maps.agree_step HA.out HOUT1.out.isMap (keyD_lit x) H1.out.2.2.2.2.1
      have hlow3 : Below w.heap.size w w3 := (H1.out.2.2.2.2.2.trans (HQ.out.mono H1.out.2.2.2.2.2.size)).trans (hFr3.below (Nat.le_trans H1.out.2.2.2.2.2.size HQ.out.size) (fun q hq e => by omega))
      have hlt3 := H1.out.2.1
      have HFIN := Lib.hid (And.intro hr3 (And.intro hown3 (And.intro hA3 (And.intro hCp3 (And.intro hlow3 hlt3)))))
      clear hFr3 nm1 nm2 hCp3 hr3 hA3 hlow3 hm2 hown3 hgrow3
      go_roundw
      case rel => exact ⟨_, cnt1, k + 1, _, _, _, HFIN.out.1, by omega, HFIN.out.2.1, HFIN.out.2.2.1, HFIN.out.2.2.2.1, HFIN.out.2.2.2.2.1⟩
      case measure => rw [HFIN.out.1.left_eq, HR.out.left_eq]; exact hlt3

set_option maxRecDepth 100000 in
theorem cloneT_any {ι rb : Nat → Option Nat} {F : Nat → Fl} {w : World} {t : Option Nat} {n : Nat} {D : DM} (ht : Tab ι w t n D) (hD : OkD D) (hf : Files ι rb F w) (hn : n ≤ 100000) :
    Calls Try.prog 25 #[.map t] w (ClonePost D F n w) := by
  rcases ht with ⟨rfl, rfl⟩ | ⟨bm, rfl, hown⟩
  · have hmk : ∀ (w : World), (Instr.makeMap 45 (some (.int .i64 0))).run Try.prog w = .ok (.map (some w.heap.size)) (w.alloc (.map #[] 0)) := fun w => rfl
    have hrg := run_range_nilMap (P := Try.prog) (w.alloc (.map #[] 0)) 45 _ _ Try.underlying45
    have hnx : ∀ ty, (Instr.next (.pointer (some ⟨(w.alloc (.map #[] 0)).heap.size, 0, none⟩)) false ty).run Try.prog ((w.alloc (.map #[] 0)).alloc (.mapIter none 0 #[] 0)) = _ := fun ty => run_next_nilMap _ ty 0 0 #[]
    have hln := fun ty => Maps.len_nil (P := Try.prog) (w := w) Try.underlying45 ty
    have e1 : (w.alloc (.map #[] 0)).heap.size = w.heap.size + 1 := by simp
    have HP : Hid (ClonePost (.map []) F n w (.returned (.map (some w.heap.size))) ((w.alloc (.map #[] 0)).alloc (.mapIter none 0 #[] 0))) :=
      ⟨w.heap.size, fun _ => none, fun _ => none, rfl, Nat.le_refl _, ((World.ownsMap_made w Try.prog 9 (fileR (fun _ => none))).alloc _).mono (Nat.zero_le _), Cp.start _ _ _ _ _, ((Below.refl _ _).alloc (Nat.le_refl _) _).alloc (by simp) _⟩
    rw [e1] at hrg hnx
    clear hf hD e1
    go_enter Try.func25, Try.ntmps25
    go_wp2_with fail
    refine wp_loop_rounds 1 ?_
    rw [rounds_succ]
    go_wp2_with fail
    go_ret
    exact HP.out
  · exact cloneT_some hown hD hf hn
end Go.Proofs.Ytoiggdcgfbjhpaa
