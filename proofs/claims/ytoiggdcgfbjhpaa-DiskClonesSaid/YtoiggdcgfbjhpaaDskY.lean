/-
  What Flush, Read and Create do to a disk.
-/
import Derived.Test.YtoiggdcgfbjhpaaDskX
namespace Go.Proofs.Ytoiggdcgfbjhpaa
open Go.ChangeShapes Go.WideShapes Go.ChangeAt Go.RowKit Go.Joins
set_option linter.unusedVariables false

/-- A disk whose names are told elsewhere. -/
structure Semi (w : World) (B : Nat) (S : St) (g : Gh) : Prop where
  at' : DkAt w B (g.on S.d)
  l : g.l.map Prod.snd = S.l
  wts : Wts g.ι w g.wa g.l.length g.wc g.l
  wcap : g.wc ≤ maxLen ∧ g.l.length ≤ g.wc
  sf : Tab g.ι w g.sf g.ns S.Ds
  nil0 : g.sf = none → g.l.length = 0
  files : Files g.ι g.rb S.F w
  inj : ∀ b b' i, g.ι b = some i → g.ι b' = some i → b = b'
  injr : ∀ b b' i j r, g.ι b = some i → g.ι b' = some j → g.rb i = some r → g.rb j = some r → i = j
  lt : ∀ b i, g.ι b = some i → i < S.next
  ns : g.ns + g.l.length ≤ S.steps

def settleS (N : Nat) (S : St) : St := { S with Ds := didAll S.Ds (S.l.take N), l := [] }
def settleG (N : Nat) (g : Gh) : Gh := { g with wa := none, wc := 0, l := [], ns := g.ns + N }

theorem settle_semi {w : World} {B : Nat} {S : St} {g : Gh} (h : Rep w B S g) (N : Nat) (hN : N ≤ S.l.length) (hst : S.steps ≤ 900) :
    Calls Try.prog 31 #[.pointer (some ⟨B, 0, none⟩), .int .i64 (N : Int)] w fun e w' => e = .returned (.tuple #[]) ∧ Semi w' B (settleS N S) (settleG N g) ∧ Tab g.ι w' g.nm g.nn S.Dn ∧ Fr (Foot B g) w w' := by
  have hns := h.ns
  have hlen : g.l.length = S.l.length := by rw [← h.l, List.length_map]
  refine (settle_any (x := g.on S.d) N h.at' h.wts h.sf (by show N ≤ g.l.length; omega) h.wcap.1 h.wcap.2 (by show g.ns + g.l.length ≤ 1000000; omega) h.nil0).mono ?_
  rintro e w' ⟨rfl, h1, h2, h3⟩
  have hfo := h.files.off h.at'.blk (by decide) (by decide)
  have hk : ∀ b i, g.ι b = some i → ¬ Saf B g.sf b ∧ ∀ r, g.rb i = some r → ¬ Saf B g.sf r := fun b i hi => by
    refine ⟨fun e => ?_, fun r hr e => ?_⟩
    · rcases e with e | e
      · exact hfo.1 b i hi e
      · obtain ⟨_, k1⟩ := (h.files b i hi).block
        obtain ⟨_, _, k2⟩ := h.sf.block e
        rw [k1] at k2; cases k2
    · rcases e with e | e
      · exact hfo.2 b i hi r hr e
      · obtain ⟨_, k1⟩ := (h.files b i hi).bytesBlock hr
        obtain ⟨_, _, k2⟩ := h.sf.block e
        rw [k1] at k2; cases k2
  refine ⟨rfl, ⟨h1, rfl, ⟨World.ownsRow_nil _ _ _ _, rfl, fun x hx => (by cases hx), fun x hx => (by cases hx)⟩, ⟨Nat.zero_le _, Nat.le_refl _⟩, ?_, fun _ => rfl, h.files.fr h3 (fun b i hi => (hk b i hi).1) (fun b i hi => (hk b i hi).2), h.inj, h.injr, h.lt, ?_⟩, ?_, ?_⟩
  · show Tab g.ι w' g.sf (g.ns + N) (didAll S.Ds (S.l.take N))
    rw [didTo_all, h.l] at h2
    exact h2
  · show g.ns + N + 0 ≤ S.steps
    omega
  · refine h.nm.fr h3 fun b hb e => ?_
    rcases e with e | e
    · obtain ⟨_, _, k2⟩ := h.nm.block hb
      rw [e, h.at'.blk] at k2; cases k2
    · exact h.apart (by rw [hb]; simp) (by rw [hb]; exact e.symm)
  · exact h3.mono fun k _ e => by
      rcases e with e | e
      · exact .inl e
      · exact .inr (.inr (.inl e))

def flushS (S : St) : Int × St :=
  if S.d.lost then (6, S) else if (passD S.d).1 = 0 then (0, settleS S.l.length (passS S)) else ((passD S.d).1, passS S)

theorem flush_rep {w w' : World} {B : Nat} {S : St} {g : Gh} (h : Rep w B S g) (hs : Semi w' B (settleS S.l.length S) (settleG S.l.length g)) (hn : Tab g.ι w' g.nm g.nn S.Dn) : Rep w' B (settleS S.l.length S) (settleG S.l.length g) := by
  refine ⟨hs.at', hs.l, hs.wts, hs.wcap, ?_, hs.sf, h.nil, h.apart, hs.nil0, hs.files, hs.inj, hs.injr, hs.lt, h.nn, hs.ns⟩
  have : (settleS S.l.length S).Dn = S.Dn := by
    show didAll (didAll S.Ds (S.l.take S.l.length)) [] = didAll S.Ds S.l
    rw [List.take_length]; rfl
  rw [this]
  exact hn
theorem settleG_foot {B N : Nat} {g : Gh} {k : Nat} (h : Foot B (settleG N g) k) : Foot B g k := by
  rcases h with e | e | e | e | e | e
  · exact .inl e
  · exact .inr (.inl e)
  · exact .inr (.inr (.inl e))
  · cases e
  · exact .inr (.inr (.inr (.inr (.inl e))))
  · exact .inr (.inr (.inr (.inr (.inr e))))

set_option maxRecDepth 100000 in
theorem flush_any {w : World} {B : Nat} {S : St} {g : Gh} (h : Rep w B S g) (hst : S.steps ≤ 900) :
    Calls Try.prog 21 #[.pointer (some ⟨B, 0, none⟩)] w fun e w' => e = .returned (.int .i64 (flushS S).1) ∧ Did B (flushS S).2 g w w' := by
  have H := Lib.hid h
  have HST := Lib.hid hst
  have hp := power_rep h
  have hq := pass_rep h
  clear h hst
  cases hl : S.d.lost with
  | true =>
    have HV : Hid (flushS S = (6, S)) := by show _ = _; unfold flushS; rw [if_pos hl]
    rw [hl] at hp
    simp only [if_true] at hp
    clear hl hq
    go_enter Try.func21, Try.ntmps21
    go_wp2_with fail
    (with_reducible refine hp.mono ?_)
    rintro e w1 ⟨rfl, rfl⟩
    go_wp2_with fail
    go_ret
    rw [HV.out]
    exact ⟨rfl, H.out.did⟩
  | false =>
    rw [hl] at hp
    simp only [Bool.false_eq_true, if_false] at hp
    by_cases h0 : (passD S.d).1 = 0
    · have HV : Hid (flushS S = (0, settleS S.l.length (passS S))) := by show _ = _; unfold flushS; rw [if_neg (by simp [hl]), if_pos h0]
      rw [h0] at hq
      clear hl h0
      go_enter Try.func21, Try.ntmps21
      go_wp2_with fail
      (with_reducible refine hp.mono ?_)
      rintro e w1 ⟨rfl, rfl⟩
      go_wp2_with fail
      (with_reducible refine hq.mono ?_)
      rintro e w1 ⟨rfl, h1, o1⟩
      have F1 : Hid (Fr (Foot B g) w w1) := Fr.of_only o1 (.inl rfl)
      have H1 := Lib.hid h1
      have c4 : w1.cell? ⟨B, 4, none⟩ = some (.slice g.wa g.l.length g.wc) := by rw [h1.at'.cell]; simp [Dk.cells, Gh.on]
      have hz : g.l.length = S.l.length := by rw [← show g.l.map Prod.snd = S.l from h1.l, List.length_map]
      have ht := settle_semi h1 S.l.length (Nat.le_refl _) HST.out
      rw [hz] at c4
      clear h1 o1 hp hq hz
      go_wp2_with fail
      (with_reducible refine ht.mono ?_)
      rintro e w2 ⟨rfl, s2, n2, f2⟩
      have D2 : Hid (Did B (settleS S.l.length (passS S)) g w w2) := Did.step F1.out ⟨_, flush_rep H1.out s2 n2, f2, fun k hk => .inl (settleG_foot hk)⟩
      clear s2 n2 f2 ht
      go_wp2_with fail
      go_ret
      rw [HV.out]
      exact ⟨rfl, D2.out⟩
    · have HV : Hid (flushS S = ((passD S.d).1, passS S)) := by show _ = _; unfold flushS; rw [if_neg (by simp [hl]), if_neg h0]
      have h0' : ((passD S.d).1 != 0) = true := by simpa using h0
      clear hl
      generalize (passD S.d).1 = e0 at *
      go_enter Try.func21, Try.ntmps21
      go_wp2_with fail
      (with_reducible refine hp.mono ?_)
      rintro e w1 ⟨rfl, rfl⟩
      go_wp2_with fail
      (with_reducible refine hq.mono ?_)
      rintro e w1 ⟨rfl, h1, o1⟩
      have D1 : Hid (Did B (passS S) g w w1) := ⟨g, h1, Fr.of_only o1 (.inl rfl), fun _ h => .inl h⟩
      clear h1 o1
      go_wp2_with fail
      go_ret
      rw [HV.out]
      exact ⟨rfl, D1.out⟩

/-! Create. -/
def newS (S : St) : St := { S with F := upd S.F S.next ⟨[], 0⟩, next := S.next + 1 }
def newG (w : World) (S : St) (g : Gh) : Gh := { g with ι := upd g.ι w.heap.size (some S.next), rb := upd g.rb S.next none }
theorem newG_mono {w : World} {B : Nat} {S : St} {g : Gh} (h : Rep w B S g) : ∀ b i, g.ι b = some i → (newG w S g).ι b = some i := fun b i hi => by
  have := h.foot_lt (k := b) (.inr (.inr (.inr (.inr (.inl ⟨i, hi⟩)))))
  show upd g.ι w.heap.size (some S.next) b = some i
  rw [upd_other _ _ (by omega)]; exact hi
theorem newG_inv {w : World} {S : St} {g : Gh} {b i : Nat} (h : (newG w S g).ι b = some i) : (b = w.heap.size ∧ i = S.next) ∨ g.ι b = some i := by
  have h : upd g.ι w.heap.size (some S.next) b = some i := h
  by_cases e : b = w.heap.size
  · subst e
    rw [upd_same] at h
    exact .inl ⟨rfl, (Option.some.inj h).symm⟩
  · rw [upd_other _ _ e] at h
    exact .inr h
theorem Rep.newFile {w : World} {B : Nat} {S : St} {g : Gh} (h : Rep w B S g) :
    Rep (w.alloc (.cells #[.slice none 0 0, .int .i64 0] 69)) B (newS S) (newG w S g) ∧ ∀ k, Foot B (newG w S g) k → Foot B g k ∨ w.heap.size ≤ k := by
  have hL := h.later ((Below.refl w.heap.size w).alloc (Nat.le_refl _) (.cells #[.slice none 0 0, .int .i64 0] 69))
  have hm := newG_mono h
  refine ⟨⟨hL.at', hL.l, wts_mono hm hL.wts, hL.wcap, hL.nm.mono hm, hL.sf.mono hm, hL.nil, hL.apart, hL.nil0, fun b i hi => ?_, fun b b' i h1 h2 => ?_, fun b b' i j r h1 h2 h3 h4 => ?_, fun b i hi => ?_, hL.nn, hL.ns⟩, fun k hk => ?_⟩
  · rcases newG_inv hi with ⟨rfl, rfl⟩ | hi
    · show FileAt _ _ (upd g.rb S.next none S.next) (upd S.F S.next ⟨[], 0⟩ S.next)
      rw [upd_same, upd_same]
      exact ⟨fun n hn => (by cases hn), Nat.zero_le _, Nat.le_refl _, .slice none 0 0, rfl, World.ownsRow_nil _ _ _ _, heap_alloc_new w _⟩
    · have := h.lt b i hi
      show FileAt _ _ (upd g.rb S.next none i) (upd S.F S.next ⟨[], 0⟩ i)
      rw [upd_other _ _ (by omega), upd_other _ _ (by omega)]
      exact hL.files b i hi
  · rcases newG_inv h1 with ⟨rfl, rfl⟩ | k1 <;> rcases newG_inv h2 with ⟨rfl, e⟩ | k2
    · rfl
    · have := h.lt _ _ k2; omega
    · have := h.lt _ _ k1; omega
    · exact h.inj _ _ _ k1 k2
  · have h3 : upd g.rb S.next none i = some r := h3
    have h4 : upd g.rb S.next none j = some r := h4
    by_cases e1 : i = S.next
    · rw [e1, upd_same] at h3; cases h3
    by_cases e2 : j = S.next
    · rw [e2, upd_same] at h4; cases h4
    rw [upd_other _ _ e1] at h3
    rw [upd_other _ _ e2] at h4
    exact h.injr _ _ _ _ _ ((newG_inv h1).resolve_left fun e => e1 e.2) ((newG_inv h2).resolve_left fun e => e2 e.2) h3 h4
  · show i < S.next + 1
    rcases newG_inv hi with ⟨_, rfl⟩ | hi
    · omega
    · have := h.lt b i hi; omega
  · rcases hk with e | e | e | e | ⟨i, e⟩ | ⟨b, i, e1, e2⟩
    · exact .inl (.inl e)
    · exact .inl (.inr (.inl e))
    · exact .inl (.inr (.inr (.inl e)))
    · exact .inl (.inr (.inr (.inr (.inl e))))
    · rcases newG_inv e with ⟨rfl, _⟩ | e
      · exact .inr (Nat.le_refl _)
      · exact .inl (.inr (.inr (.inr (.inr (.inl ⟨i, e⟩)))))
    · have e2 : upd g.rb S.next none i = some k := e2
      by_cases e3 : i = S.next
      · rw [e3, upd_same] at e2; cases e2
      · rw [upd_other _ _ e3] at e2
        exact .inl (.inr (.inr (.inr (.inr (.inr ⟨b, i, (newG_inv e1).resolve_left fun e => e3 e.2, e2⟩)))))
theorem Did.via {w w1 w2 : World} {B : Nat} {S : St} {g g' : Gh} (k : Fr (Foot B g) w w1) (hf : ∀ j, Foot B g' j → Foot B g j ∨ w.heap.size ≤ j) (h : Did B S g' w1 w2) : Did B S g w w2 := by
  obtain ⟨g2, h1, h2, h3⟩ := h
  refine ⟨g2, h1, ⟨h2.os.trans k.os, h2.tape.trans k.tape, h2.output.trans k.output, Nat.le_trans k.size h2.size, fun j hj hn => ?_⟩, fun j hj => ?_⟩
  · rw [h2.block j (Nat.lt_of_lt_of_le hj k.size) (fun e => ?_)]
    · exact k.block j hj hn
    · rcases hf j e with e | e
      · exact hn e
      · omega
  · rcases h3 j hj with e | e
    · exact hf j e
    · exact .inr (Nat.le_trans k.size e)

def createS (s : ByteArray) (S : St) : Int × St :=
  if S.d.lost then (6, S) else if rightB s = false then (1, S) else if numD S.Dn s ≠ -1 then (8, S) else if (passD S.d).1 = 0 then (0, turnS ⟨(S.next : Int), ⟨#[]⟩, s⟩ (newS (passS S))) else ((passD S.d).1, passS S)

set_option maxRecDepth 100000 in
theorem create_any {w : World} {B : Nat} {S : St} {g : Gh} (s : ByteArray) (h : Rep w B S g) (hs : s.size ≤ maxLen) (hst : S.steps ≤ 900) :
    Calls Try.prog 17 #[.pointer (some ⟨B, 0, none⟩), .string s] w fun e w' => e = .returned (.int .i64 (createS s S).1) ∧ Did B (createS s S).2 g w w' := by
  have H := Lib.hid h
  have HS := Lib.hid hs
  have HST := Lib.hid hst
  have hp := power_rep h
  have c2 : w.cell? ⟨B, 2, none⟩ = some (.map g.nm) := by rw [h.at'.cell]; simp [Dk.cells, Gh.on]
  have hq := pass_rep h
  have hnum := h.nm.num hs
  have hg := fun w => right_any s (by unfold maxLen at hs; omega) w
  clear h hs hst
  cases hl : S.d.lost with
  | true =>
    have HV : Hid (createS s S = (6, S)) := by show _ = _; unfold createS; rw [if_pos hl]
    rw [hl] at hp
    simp only [if_true] at hp
    clear hl hq hnum
    go_enter Try.func17, Try.ntmps17
    go_wp2_with fail
    (with_reducible refine hp.mono ?_)
    rintro e w1 ⟨rfl, rfl⟩
    go_wp2_with fail
    go_ret
    rw [HV.out]
    exact ⟨rfl, H.out.did⟩
  | false =>
    rw [hl] at hp
    simp only [Bool.false_eq_true, if_false] at hp
    cases hrt : rightB s with
    | false =>
      have HV : Hid (createS s S = (1, S)) := by show _ = _; unfold createS; rw [if_neg (by simp [hl]), if_pos hrt]
      rw [hrt] at hg
      clear hl hq hnum hrt
      go_enter Try.func17, Try.ntmps17
      go_wp2_with fail
      (with_reducible refine hp.mono ?_)
      rintro e w1 ⟨rfl, rfl⟩
      clear hp
      go_wp2_with fail
      (with_reducible refine (hg _).mono ?_)
      rintro e w1 ⟨rfl, rfl⟩
      go_wp2_with fail
      go_ret
      rw [HV.out]
      exact ⟨rfl, H.out.did⟩
    | true =>
      rw [hrt] at hg
      have hor : ¬ rightB s = false := by rw [hrt]; simp
      rcases hnum with ⟨hn, hr⟩ | ⟨b, i, hi, hn, hr⟩
      · have heq := nep_none w
        have hnn : ¬ numD S.Dn s ≠ -1 := by rw [hn]; simp
        by_cases h0 : (passD S.d).1 = 0
        · have HV : Hid (createS s S = (0, turnS ⟨(S.next : Int), ⟨#[]⟩, s⟩ (newS (passS S)))) := by show _ = _; unfold createS; rw [if_neg (by simp [hl]), if_neg hor, if_neg hnn, if_pos h0]
          rw [h0] at hq
          clear hl hn hnn h0 hor hrt
          go_enter Try.func17, Try.ntmps17
          go_wp2_with fail
          (with_reducible refine hp.mono ?_)
          rintro e w1 ⟨rfl, rfl⟩
          clear hp
          go_wp2_with fail
          (with_reducible refine (hg _).mono ?_)
          rintro e w1 ⟨rfl, rfl⟩
          go_wp2_with fail
          (with_reducible refine hq.mono ?_)
          rintro e w1 ⟨rfl, h1, o1⟩
          obtain ⟨h2, hf2⟩ := h1.newFile
          have ht := turn_rep h2 (some ⟨w1.heap.size, 0, none⟩) ⟨(S.next : Int), ⟨#[]⟩, s⟩ (by simp [fileR, newG, upd_same]; rfl) ⟨Nat.zero_le _, HS.out⟩ HST.out
          unfold Chg.val at ht
          have HF : Hid (Fr (Foot B g) w (w1.alloc (.cells #[.slice none 0 0, .int .i64 0] 69)) ∧ ∀ j, Foot B (newG w1 (passS S) g) j → Foot B g j ∨ w.heap.size ≤ j) :=
            ⟨(Fr.of_only (X := Foot B g) o1 (.inl rfl)).later ((Below.refl _ _).alloc (Nat.le_refl _) _), fun j hj => (hf2 j hj).imp id fun e => by rw [o1.size] at e; exact e⟩
          clear h1 o1 c2 hr heq hq hg h2 hf2
          go_wp2_with fail
          (with_reducible refine ht.mono ?_)
          rintro e w2 ⟨rfl, d2⟩
          have D2 := Lib.hid (Did.via HF.out.1 HF.out.2 d2)
          clear d2 ht
          go_wp2_with fail
          go_ret
          rw [HV.out]
          exact ⟨rfl, D2.out⟩
        · have HV : Hid (createS s S = ((passD S.d).1, passS S)) := by show _ = _; unfold createS; rw [if_neg (by simp [hl]), if_neg hor, if_neg hnn, if_neg h0]
          have h0' : ((passD S.d).1 != 0) = true := by simpa using h0
          clear hl hn hnn hor hrt
          generalize (passD S.d).1 = e0 at *
          go_enter Try.func17, Try.ntmps17
          go_wp2_with fail
          (with_reducible refine hp.mono ?_)
          rintro e w1 ⟨rfl, rfl⟩
          clear hp
          go_wp2_with fail
          (with_reducible refine (hg _).mono ?_)
          rintro e w1 ⟨rfl, rfl⟩
          go_wp2_with fail
          (with_reducible refine hq.mono ?_)
          rintro e w1 ⟨rfl, h1, o1⟩
          have D1 : Hid (Did B (passS S) g w w1) := ⟨g, h1, Fr.of_only o1 (.inl rfl), fun _ h => .inl h⟩
          clear h1 o1
          go_wp2_with fail
          go_ret
          rw [HV.out]
          exact ⟨rfl, D1.out⟩
      · have hnn : numD S.Dn s ≠ -1 := by rw [hn]; omega
        have HV : Hid (createS s S = (8, S)) := by show _ = _; unfold createS; rw [if_neg (by simp [hl]), if_neg hor, if_pos hnn]
        have heq := nep_some b w
        clear hl hn hor hrt hnn hi
        go_enter Try.func17, Try.ntmps17
        go_wp2_with fail
        (with_reducible refine hp.mono ?_)
        rintro e w1 ⟨rfl, rfl⟩
        clear hp
        go_wp2_with fail
        (with_reducible refine (hg _).mono ?_)
        rintro e w1 ⟨rfl, rfl⟩
        go_wp2_with fail
        go_ret
        rw [HV.out]
        exact ⟨rfl, H.out.did⟩
end Go.Proofs.Ytoiggdcgfbjhpaa
