/-
  What Rename, Flush, Sync and Read do to a disk.
-/
import Derived.Test.YtoiggdcgfbjhpaaDskW
namespace Go.Proofs.Ytoiggdcgfbjhpaa
open Go.ChangeShapes Go.WideShapes Go.ChangeAt Go.RowKit Go.Joins
set_option linter.unusedVariables false

def renameS (s t : ByteArray) (S : St) : Int × St :=
  if S.d.lost then (6, S) else if rightB t = false ∨ s = t then (1, S) else if numD S.Dn s = -1 then (7, S) else if (passD S.d).1 = 0 then (0, turnS ⟨-1, s, t⟩ (passS S)) else ((passD S.d).1, passS S)

set_option maxRecDepth 100000 in
theorem rename_any {w : World} {B : Nat} {S : St} {g : Gh} (s t : ByteArray) (h : Rep w B S g) (hs : s.size ≤ maxLen) (ht : t.size ≤ maxLen) (hst : S.steps ≤ 900) :
    Calls Try.prog 19 #[.pointer (some ⟨B, 0, none⟩), .string s, .string t] w fun e w' => e = .returned (.int .i64 (renameS s t S).1) ∧ Did B (renameS s t S).2 g w w' := by
  have H := Lib.hid h
  have HS := Lib.hid hs
  have HT := Lib.hid ht
  have HST := Lib.hid hst
  have hp := power_rep h
  have c2 : w.cell? ⟨B, 2, none⟩ = some (.map g.nm) := by rw [h.at'.cell]; simp [Dk.cells, Gh.on]
  have hq := pass_rep h
  have hnum := h.nm.num hs
  have hg := fun w => right_any t (by unfold maxLen at ht; omega) w
  clear h hs ht hst
  cases hl : S.d.lost with
  | true =>
    have HV : Hid (renameS s t S = (6, S)) := by show _ = _; unfold renameS; rw [if_pos hl]
    rw [hl] at hp
    simp only [if_true] at hp
    clear hl hq hnum
    go_enter Try.func19, Try.ntmps19
    go_wp2_with fail
    (with_reducible refine hp.mono ?_)
    rintro e w1 ⟨rfl, rfl⟩
    go_wp2_with fail
    go_ret
    rw [HV.out]
    exact ⟨rfl, H.out.did⟩
  | false =>
    rw [hl] at hp
    simp only [Bool.false_eq_true, if_false] at hp
    cases hrt : rightB t with
    | false =>
      have HV : Hid (renameS s t S = (1, S)) := by show _ = _; unfold renameS; rw [if_neg (by simp [hl]), if_pos (.inl hrt)]
      rw [hrt] at hg
      clear hl hq hnum hrt
      go_enter Try.func19, Try.ntmps19
      go_wp2_with fail
      (with_reducible refine hp.mono ?_)
      rintro e w1 ⟨rfl, rfl⟩
      clear hp
      go_wp2_with fail
      (with_reducible refine (hg _).mono ?_)
      rintro e w1 ⟨rfl, rfl⟩
      go_wp2_with fail
      go_ret
      rw [HV.out]
      exact ⟨rfl, H.out.did⟩
    | true =>
      rw [hrt] at hg
      by_cases hst : s = t
      · have HV : Hid (renameS s t S = (1, S)) := by show _ = _; unfold renameS; rw [if_neg (by simp [hl]), if_pos (.inr hst)]
        subst hst
        clear hl hq hnum hrt
        go_enter Try.func19, Try.ntmps19
        go_wp2_with fail
        (with_reducible refine hp.mono ?_)
        rintro e w1 ⟨rfl, rfl⟩
        clear hp
        go_wp2_with fail
        (with_reducible refine (hg _).mono ?_)
        rintro e w1 ⟨rfl, rfl⟩
        go_wp2_with fail
        go_ret
        rw [HV.out]
        exact ⟨rfl, H.out.did⟩
      · have hor : ¬ (rightB t = false ∨ s = t) := by rw [hrt]; simp [hst]
        have hstb : (s.toList == t.toList) = false := by
          rw [ByteArray.toList_eq, ByteArray.toList_eq]
          exact beq_eq_false_iff_ne.2 fun e => hst (keyD_inj (by unfold keyD; rw [e]))
        rcases hnum with ⟨hn, hr⟩ | ⟨b, i, hi, hn, hr⟩
        · have HV : Hid (renameS s t S = (7, S)) := by show _ = _; unfold renameS; rw [if_neg (by simp [hl]), if_neg hor, if_pos hn]
          have hq := eqp_none w
          clear hl hn hor hrt
          go_enter Try.func19, Try.ntmps19
          go_wp2_with fail
          (with_reducible refine hp.mono ?_)
          rintro e w1 ⟨rfl, rfl⟩
          clear hp
          go_wp2_with fail
          (with_reducible refine (hg _).mono ?_)
          rintro e w1 ⟨rfl, rfl⟩
          go_wp2_with fail
          go_ret
          rw [HV.out]
          exact ⟨rfl, H.out.did⟩
        · have heq := eqp_some b w
          have hnn : ¬ numD S.Dn s = -1 := by rw [hn]; omega
          by_cases h0 : (passD S.d).1 = 0
          · have HV : Hid (renameS s t S = (0, turnS ⟨-1, s, t⟩ (passS S))) := by show _ = _; unfold renameS; rw [if_neg (by simp [hl]), if_neg hor, if_neg hnn, if_pos h0]
            rw [h0] at hq
            clear hl hn hnn h0 hi hor hrt
            go_enter Try.func19, Try.ntmps19
            go_wp2_with fail
            (with_reducible refine hp.mono ?_)
            rintro e w1 ⟨rfl, rfl⟩
            clear hp
            go_wp2_with fail
            (with_reducible refine (hg _).mono ?_)
            rintro e w1 ⟨rfl, rfl⟩
            go_wp2_with fail
            (with_reducible refine hq.mono ?_)
            rintro e w1 ⟨rfl, h1, o1⟩
            have F1 : Hid (Fr (Foot B g) w w1) := Fr.of_only o1 (.inl rfl)
            have ht := turn_rep h1 none ⟨-1, s, t⟩ rfl ⟨HS.out, HT.out⟩ HST.out
            unfold Chg.val at ht
            clear h1 o1 c2 hr heq hq hg hst
            go_wp2_with fail
            (with_reducible refine ht.mono ?_)
            rintro e w2 ⟨rfl, d2⟩
            have D2 := Lib.hid (Did.step F1.out d2)
            clear d2 ht
            go_wp2_with fail
            go_ret
            rw [HV.out]
            exact ⟨rfl, D2.out⟩
          · have HV : Hid (renameS s t S = ((passD S.d).1, passS S)) := by show _ = _; unfold renameS; rw [if_neg (by simp [hl]), if_neg hor, if_neg hnn, if_neg h0]
            have h0' : ((passD S.d).1 != 0) = true := by simpa using h0
            clear hl hn hnn hi hor hrt
            generalize (passD S.d).1 = e0 at *
            go_enter Try.func19, Try.ntmps19
            go_wp2_with fail
            (with_reducible refine hp.mono ?_)
            rintro e w1 ⟨rfl, rfl⟩
            clear hp
            go_wp2_with fail
            (with_reducible refine (hg _).mono ?_)
            rintro e w1 ⟨rfl, rfl⟩
            go_wp2_with fail
            (with_reducible refine hq.mono ?_)
            rintro e w1 ⟨rfl, h1, o1⟩
            have D1 : Hid (Did B (passS S) g w w1) := ⟨g, h1, Fr.of_only o1 (.inl rfl), fun _ h => .inl h⟩
            clear h1 o1
            go_wp2_with fail
            go_ret
            rw [HV.out]
            exact ⟨rfl, D1.out⟩

/-! Sync. -/
def syncF (f : Fl) : Fl := { f with safe := f.bytes.length }
def syncS (s : ByteArray) (S : St) : Int × St :=
  if S.d.lost then (6, S) else if numD S.Dn s = -1 then (7, S) else if (passD S.d).1 = 0 then (0, { passS S with F := upd S.F (numD S.Dn s).toNat (syncF (S.F (numD S.Dn s).toNat)) }) else ((passD S.d).1, passS S)

/-- A file's safe bytes are told anew. -/
theorem Rep.safe {w : World} {B : Nat} {S : St} {g : Gh} (h : Rep w B S g) {b i : Nat} (hi : g.ι b = some i) (n : Nat) (hn : n ≤ (S.F i).bytes.length) :
    Did B { S with F := upd S.F i { S.F i with safe := n } } g w (w.setCell ⟨b, 1, none⟩ (.int .i64 (n : Int))) := by
  have hf := h.files b i hi
  obtain ⟨f1, f2, f3, v, e, ho, hb⟩ := hf
  have k : Fr (fun k => k = b ∨ g.rb i = some k) w (w.setCell ⟨b, 1, none⟩ (.int .i64 (n : Int))) := (Fr.refl _ w).set (fun _ => .inl rfl) _
  have hf' : FileAt (w.setCell ⟨b, 1, none⟩ (.int .i64 (n : Int))) b (g.rb i) { S.F i with safe := n } := by
    refine ⟨f1, f2, hn, v, e, ⟨ho.1, ?_⟩, ?_⟩
    · rcases ho.2 with h0 | ⟨r, cap, cur, hv, hg0, hg, rr⟩
      · exact .inl h0
      · refine .inr ⟨r, cap, cur, hv, hg0, ?_, rr⟩
        rw [heap_setCell_other _ _ _ _ (by show r ≠ b; intro e2; subst e2; rw [hb] at hg; cases hg)]
        exact hg
    · rw [heap_setCell_same w b 1 _ _ _ hb]; rfl
  obtain ⟨h1, h2⟩ := h.file hi hf' (fun k hk => .inl hk) k
  exact ⟨_, h1, k.mono fun j _ hj => by
    rcases hj with rfl | hj
    · exact .inr (.inr (.inr (.inr (.inl ⟨i, hi⟩))))
    · exact .inr (.inr (.inr (.inr (.inr ⟨b, i, hi, hj⟩)))), h2⟩

set_option maxRecDepth 100000 in
theorem sync_any {w : World} {B : Nat} {S : St} {g : Gh} (s : ByteArray) (h : Rep w B S g) (hs : s.size ≤ maxLen) :
    Calls Try.prog 16 #[.pointer (some ⟨B, 0, none⟩), .string s] w fun e w' => e = .returned (.int .i64 (syncS s S).1) ∧ Did B (syncS s S).2 g w w' := by
  have H := Lib.hid h
  have hp := power_rep h
  have c2 : w.cell? ⟨B, 2, none⟩ = some (.map g.nm) := by rw [h.at'.cell]; simp [Dk.cells, Gh.on]
  have hq := pass_rep h
  have hnum := h.nm.num hs
  clear h hs
  cases hl : S.d.lost with
  | true =>
    have HV : Hid (syncS s S = (6, S)) := by show _ = _; unfold syncS; rw [if_pos hl]
    rw [hl] at hp
    simp only [if_true] at hp
    clear hl hq hnum
    go_enter Try.func16, Try.ntmps16
    go_wp2_with fail
    (with_reducible refine hp.mono ?_)
    rintro e w1 ⟨rfl, rfl⟩
    go_wp2_with fail
    go_ret
    rw [HV.out]
    exact ⟨rfl, H.out.did⟩
  | false =>
    rw [hl] at hp
    simp only [Bool.false_eq_true, if_false] at hp
    rcases hnum with ⟨hn, hr⟩ | ⟨b, i, hi, hn, hr⟩
    · have HV : Hid (syncS s S = (7, S)) := by show _ = _; unfold syncS; rw [if_neg (by simp [hl]), if_pos hn]
      have hq := eqp_none w
      clear hl hn
      go_enter Try.func16, Try.ntmps16
      go_wp2_with fail
      (with_reducible refine hp.mono ?_)
      rintro e w1 ⟨rfl, rfl⟩
      go_wp2_with fail
      go_ret
      rw [HV.out]
      exact ⟨rfl, H.out.did⟩
    · have heq := eqp_some b w
      have hnn : ¬ numD S.Dn s = -1 := by rw [hn]; omega
      by_cases h0 : (passD S.d).1 = 0
      · have HV : Hid (syncS s S = (0, { passS S with F := upd S.F i { S.F i with safe := (S.F i).bytes.length } })) := by
          show _ = _; unfold syncS; rw [if_neg (by simp [hl]), if_neg hnn, if_pos h0, hn]; rfl
        have HI := Lib.hid hi
        rw [h0] at hq
        clear hl hn hnn h0 hi
        go_enter Try.func16, Try.ntmps16
        go_wp2_with fail
        (with_reducible refine hp.mono ?_)
        rintro e w1 ⟨rfl, rfl⟩
        go_wp2_with fail
        (with_reducible refine hq.mono ?_)
        rintro e w1 ⟨rfl, h1, o1⟩
        have F1 : Hid (Fr (Foot B g) w w1) := Fr.of_only o1 (.inl rfl)
        have D1 := Lib.hid (h1.safe HI.out (S.F i).bytes.length (Nat.le_refl _))
        obtain ⟨_, hsz, _, v, _, ho, hb⟩ := h1.files b i HI.out
        have hsz : (S.F i).bytes.length ≤ 1000000 := hsz
        obtain ⟨a, cap, rfl, -, -⟩ := own_shape ho
        have k0 : w1.cell? ⟨b, 0, none⟩ = some (.slice a (S.F i).bytes.length cap) := by rw [cell_of_row w1 b 0 _ _ (0, 0) hb]; rfl
        have k1 : w1.cell? ⟨b, 1, none⟩ = some (.int .i64 ((S.F i).safe : Int)) := by rw [cell_of_row w1 b 1 _ _ (0, 0) hb]; rfl
        have kf := unfrozen_of_block hb 1
        clear h1 o1 c2 hr heq hp hq hb ho
        generalize (S.F i).bytes.length = n at *
        go_wp2_with fail
        go_ret
        rw [HV.out]
        exact ⟨rfl, Did.step F1.out D1.out⟩
      · have HV : Hid (syncS s S = ((passD S.d).1, passS S)) := by show _ = _; unfold syncS; rw [if_neg (by simp [hl]), if_neg hnn, if_neg h0]
        have h0' : ((passD S.d).1 != 0) = true := by simpa using h0
        clear hl hn hnn hi
        generalize (passD S.d).1 = e0 at *
        go_enter Try.func16, Try.ntmps16
        go_wp2_with fail
        (with_reducible refine hp.mono ?_)
        rintro e w1 ⟨rfl, rfl⟩
        go_wp2_with fail
        (with_reducible refine hq.mono ?_)
        rintro e w1 ⟨rfl, h1, o1⟩
        have D1 : Hid (Did B (passS S) g w w1) := ⟨g, h1, Fr.of_only o1 (.inl rfl), fun _ h => .inl h⟩
        clear h1 o1
        go_wp2_with fail
        go_ret
        rw [HV.out]
        exact ⟨rfl, D1.out⟩
end Go.Proofs.Ytoiggdcgfbjhpaa
