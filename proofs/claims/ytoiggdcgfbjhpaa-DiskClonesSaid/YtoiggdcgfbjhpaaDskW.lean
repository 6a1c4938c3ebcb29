/-
  What Remove, Rename and Flush do to a disk.
-/
import Derived.Test.YtoiggdcgfbjhpaaDskV
namespace Go.Proofs.Ytoiggdcgfbjhpaa
open Go.ChangeShapes Go.WideShapes Go.ChangeAt Go.RowKit Go.Joins
set_option linter.unusedVariables false

def turnS (c : Chg) (S : St) : St := { S with d := { S.d with used := useD S.d.used S.F S.Dn c }, l := S.l ++ [c], steps := S.steps + 1 }
theorem turnS_dn (c : Chg) (S : St) : (turnS c S).Dn = c.did S.Dn := by
  unfold St.Dn turnS didAll
  rw [List.foldl_append]; rfl
theorem Did.step {w w1 w2 : World} {B : Nat} {S : St} {g : Gh} (k : Fr (Foot B g) w w1) (h : Did B S g w1 w2) : Did B S g w w2 := by
  obtain ⟨g', h1, h2, h3⟩ := h
  exact ⟨g', h1, k.trans h2, fun j hj => (h3 j hj).imp id fun e => Nat.le_trans k.size e⟩

theorem turn_rep {w : World} {B : Nat} {S : St} {g : Gh} (h : Rep w B S g) (q : Option Addr) (c : Chg) (hp : fileR g.ι (.pointer q) = some (idD c.made, [])) (hc : c.src.size ≤ maxLen ∧ c.dst.size ≤ maxLen) (hst : S.steps ≤ 900) :
    Calls Try.prog 37 #[.pointer (some ⟨B, 0, none⟩), c.val (.pointer q)] w fun e w' => e = .returned (.tuple #[]) ∧ Did B (turnS c S) g w w' := by
  have hns := h.ns
  have hnn := h.nn
  refine (turn_any (x := g.on S.d) q c h.at' h.wts h.nm h.sf h.files h.nil h.apart hp hc (by show g.l.length ≤ 1000; omega) (by omega) h.wcap).mono ?_
  rintro e w' ⟨rfl, x', T, hu, hwl, hwc, hw, hro, hfr⟩
  refine ⟨rfl, { g with nm := x'.nm, sf := x'.sf, wa := x'.wa, wc := x'.wc, l := g.l ++ [(.pointer q, c)], nn := g.nn + 1 }, ?_, ?_, ?_⟩
  · obtain ⟨b1, n1, n2, n3⟩ := T.nm
    obtain ⟨b2, s1, s2, s3⟩ := T.sf
    have hx : x' = Gh.on { g with nm := x'.nm, sf := x'.sf, wa := x'.wa, wc := x'.wc, l := g.l ++ [(.pointer q, c)], nn := g.nn + 1 } (turnS c S).d := by
      have h1 := T.cap; have h2 := T.fs; have h3 := T.fl; have h4 := T.gs; have h5 := T.gl; have h6 := T.lost
      obtain ⟨a1, a2, a3, a4, a5, a6, a7, a8, a9, a10, a11, a12⟩ := x'
      simp only [Gh.on] at h1 h2 h3 h4 h5 h6 hu hwl ⊢
      simp only [turnS, Dk.mk.injEq, List.length_append, List.length_singleton]
      exact ⟨h1, hu, trivial, trivial, trivial, hwl, trivial, h2, h3, h4, h5, h6⟩
    have hl' : (g.l ++ [(Value.pointer q, c)]).length = x'.wl := by rw [hwl, List.length_append]; rfl
    have hfo := h.files.off h.at'.blk (by decide) (by decide)
    have hkeep : ∀ b i, g.ι b = some i → ¬ Mine B (g.on S.d) b ∧ ∀ r, g.rb i = some r → ¬ Mine B (g.on S.d) r := fun b i hi => by
      obtain ⟨_, h1⟩ := (h.files b i hi).block
      refine ⟨fun hm => ?_, fun r hr hm => ?_⟩
      · rcases hm with e | e | e
        · exact hfo.1 b i hi e
        · obtain ⟨_, _, h2⟩ := h.nm.block e
          rw [h1] at h2; cases h2
        · obtain ⟨_, h2⟩ := wts_block h.wts e
          rw [h1] at h2; cases h2
      · obtain ⟨_, h1⟩ := (h.files b i hi).bytesBlock hr
        rcases hm with e | e | e
        · exact hfo.2 b i hi r hr e
        · obtain ⟨_, _, h2⟩ := h.nm.block e
          rw [h1] at h2; cases h2
        · obtain ⟨_, h2⟩ := wts_block h.wts e
          rw [h1] at h2; cases h2
    refine ⟨hx ▸ T.at', ?_, ?_, ?_, ?_, ?_, ?_, fun _ => T.apart, ?_, h.files.fr hfr (fun b i hi => (hkeep b i hi).1) (fun b i hi => (hkeep b i hi).2), h.inj, h.injr, h.lt, ?_, ?_⟩
    · simp [turnS, h.l]
    · show Wts g.ι w' x'.wa (g.l ++ [(Value.pointer q, c)]).length x'.wc (g.l ++ [(Value.pointer q, c)])
      rw [hl']; exact hw
    · show x'.wc ≤ maxLen ∧ (g.l ++ [(Value.pointer q, c)]).length ≤ x'.wc
      rw [hl']; exact hwc
    · show Tab g.ι w' x'.nm (g.nn + 1) (turnS c S).Dn
      rw [turnS_dn]
      exact .inr ⟨b1, n1, n3⟩
    · exact .inr ⟨b2, s1, s3⟩
    · show x'.nm = none ↔ x'.sf = none
      rw [n1, s1]; simp
    · show x'.sf = none → _
      rw [s1]; intro e; cases e
    · show g.nn + 1 ≤ S.steps + 1; omega
    · show g.ns + (g.l ++ [(Value.pointer q, c)]).length ≤ S.steps + 1
      rw [List.length_append]
      simp
      omega
  · exact hfr.mono fun k _ hk => by
      rcases hk with e | e | e
      · exact .inl e
      · exact .inr (.inl e)
      · exact .inr (.inr (.inr (.inl e)))
  · intro k hk
    obtain ⟨b1, n1, n2, n3⟩ := T.nm
    obtain ⟨b2, s1, s2, s3⟩ := T.sf
    rcases hk with e | e | e | e | e | e
    · exact .inl (.inl e)
    · have e : x'.nm = some k := e
      rw [n1] at e; cases e
      rcases n2 with h1 | h1
      · exact .inl (.inr (.inl h1))
      · exact .inr h1
    · have e : x'.sf = some k := e
      rw [s1] at e; cases e
      rcases s2 with h1 | h1
      · exact .inl (.inr (.inr (.inl h1)))
      · exact .inr h1
    · have e : (Value.slice x'.wa (g.l ++ [(Value.pointer q, c)]).length x'.wc).ownBlock = some k := e
      rw [show (g.l ++ [(Value.pointer q, c)]).length = x'.wl by rw [hwl, List.length_append]; rfl] at e
      rcases hro k e with h1 | h1
      · exact .inl (.inr (.inr (.inr (.inl h1))))
      · exact .inr h1
    · exact .inl (.inr (.inr (.inr (.inr (.inl e)))))
    · exact .inl (.inr (.inr (.inr (.inr (.inr e)))))

def passS (S : St) : St := { S with d := (passD S.d).2 }
theorem pass_rep {w : World} {B : Nat} {S : St} {g : Gh} (h : Rep w B S g) :
    Calls Try.prog 35 #[.pointer (some ⟨B, 0, none⟩)] w fun e w' => e = .returned (.int .i64 (passD S.d).1) ∧ Rep w' B (passS S) g ∧ Only B w w' := by
  refine (pass_any h.at').mono ?_
  rintro e w' ⟨rfl, h1, h2⟩
  rw [passD_on] at h1
  rw [passD_on]
  exact ⟨rfl, h.core h1 h2, h2⟩
theorem power_rep {w : World} {B : Nat} {S : St} {g : Gh} (h : Rep w B S g) :
    Calls Try.prog 34 #[.pointer (some ⟨B, 0, none⟩)] w fun e w' => e = .returned (.int .i64 (if S.d.lost then 6 else 0)) ∧ w = w' := power_any (x := g.on S.d) h.at'

def removeS (s : ByteArray) (S : St) : Int × St :=
  if S.d.lost then (6, S) else if numD S.Dn s = -1 then (7, S) else if (passD S.d).1 = 0 then (0, turnS ⟨-1, s, ⟨#[]⟩⟩ (passS S)) else ((passD S.d).1, passS S)

theorem eqp_none (w : World) : (binOp BinOp.eql 59 (.pointer none) (.pointer none)).run Try.prog w = .ok (.bool true) w := by kernel_rfl
theorem eqp_some (b : Nat) (w : World) : (binOp BinOp.eql 59 (.pointer (some ⟨b, 0, none⟩)) (.pointer none)).run Try.prog w = .ok (.bool false) w := by kernel_rfl
theorem nep_none (w : World) : (binOp BinOp.neq 59 (.pointer none) (.pointer none)).run Try.prog w = .ok (.bool false) w := by kernel_rfl
theorem nep_some (b : Nat) (w : World) : (binOp BinOp.neq 59 (.pointer (some ⟨b, 0, none⟩)) (.pointer none)).run Try.prog w = .ok (.bool true) w := by kernel_rfl

set_option maxRecDepth 100000 in
theorem remove_any {w : World} {B : Nat} {S : St} {g : Gh} (s : ByteArray) (h : Rep w B S g) (hs : s.size ≤ maxLen) (hst : S.steps ≤ 900) :
    Calls Try.prog 20 #[.pointer (some ⟨B, 0, none⟩), .string s] w fun e w' => e = .returned (.int .i64 (removeS s S).1) ∧ Did B (removeS s S).2 g w w' := by
  have H := Lib.hid h
  have HS := Lib.hid hs
  have HST := Lib.hid hst
  have hp := power_rep h
  have c2 : w.cell? ⟨B, 2, none⟩ = some (.map g.nm) := by rw [h.at'.cell]; simp [Dk.cells, Gh.on]
  have hq := pass_rep h
  have hnum := h.nm.num hs
  clear h hs hst
  cases hl : S.d.lost with
  | true =>
    have HV : Hid (removeS s S = (6, S)) := by show _ = _; unfold removeS; rw [if_pos hl]
    rw [hl] at hp
    simp only [if_true] at hp
    clear hl hq hnum
    go_enter Try.func20, Try.ntmps20
    go_wp2_with fail
    (with_reducible refine hp.mono ?_)
    rintro e w1 ⟨rfl, rfl⟩
    go_wp2_with fail
    go_ret
    rw [HV.out]
    exact ⟨rfl, H.out.did⟩
  | false =>
    rw [hl] at hp
    simp only [Bool.false_eq_true, if_false] at hp
    rcases hnum with ⟨hn, hr⟩ | ⟨b, i, hi, hn, hr⟩
    · have HV : Hid (removeS s S = (7, S)) := by show _ = _; unfold removeS; rw [if_neg (by simp [hl]), if_pos hn]
      have hq := eqp_none w
      clear hl hn
      go_enter Try.func20, Try.ntmps20
      go_wp2_with fail
      (with_reducible refine hp.mono ?_)
      rintro e w1 ⟨rfl, rfl⟩
      go_wp2_with fail
      go_ret
      rw [HV.out]
      exact ⟨rfl, H.out.did⟩
    · have heq := eqp_some b w
      have hnn : ¬ numD S.Dn s = -1 := by rw [hn]; omega
      by_cases h0 : (passD S.d).1 = 0
      · have HV : Hid (removeS s S = (0, turnS ⟨-1, s, ⟨#[]⟩⟩ (passS S))) := by show _ = _; unfold removeS; rw [if_neg (by simp [hl]), if_neg hnn, if_pos h0]
        rw [h0] at hq
        clear hl hn hnn h0 hi
        go_enter Try.func20, Try.ntmps20
        go_wp2_with fail
        (with_reducible refine hp.mono ?_)
        rintro e w1 ⟨rfl, rfl⟩
        go_wp2_with fail
        (with_reducible refine hq.mono ?_)
        rintro e w1 ⟨rfl, h1, o1⟩
        have F1 : Hid (Fr (Foot B g) w w1) := Fr.of_only o1 (.inl rfl)
        have ht := turn_rep h1 none ⟨-1, s, ⟨#[]⟩⟩ rfl ⟨HS.out, Nat.zero_le _⟩ HST.out
        unfold Chg.val at ht
        clear h1 o1 c2 hr heq hp hq
        go_wp2_with fail
        (with_reducible refine ht.mono ?_)
        rintro e w2 ⟨rfl, d2⟩
        have D2 := Lib.hid (Did.step F1.out d2)
        clear d2 ht
        go_wp2_with fail
        go_ret
        rw [HV.out]
        exact ⟨rfl, D2.out⟩
      · have HV : Hid (removeS s S = ((passD S.d).1, passS S)) := by show _ = _; unfold removeS; rw [if_neg (by simp [hl]), if_neg hnn, if_neg h0]
        have h0' : ((passD S.d).1 != 0) = true := by simpa using h0
        clear hl hn hnn hi
        generalize (passD S.d).1 = e0 at *
        go_enter Try.func20, Try.ntmps20
        go_wp2_with fail
        (with_reducible refine hp.mono ?_)
        rintro e w1 ⟨rfl, rfl⟩
        go_wp2_with fail
        (with_reducible refine hq.mono ?_)
        rintro e w1 ⟨rfl, h1, o1⟩
        have D1 : Hid (Did B (passS S) g w w1) := ⟨g, h1, Fr.of_only o1 (.inl rfl), fun _ h => .inl h⟩
        clear h1 o1
        go_wp2_with fail
        go_ret
        rw [HV.out]
        exact ⟨rfl, D1.out⟩
end Go.Proofs.Ytoiggdcgfbjhpaa
