/-
  What the law's Bytes gives: a function of the disk's account.
-/
import Derived.Test.YtoiggdcgfbjhpaaDskDo
namespace Go.Proofs.Ytoiggdcgfbjhpaa
open Go.ChangeShapes Go.WideShapes Go.ChangeAt Go.RowKit Go.Joins
set_option linter.unusedVariables false

def readL (s : ByteArray) (S : St) : List Nat := if (readS s S).1 = 0 then (S.F (numD S.Dn s).toNat).bytes else []
def bytesS (s : ByteArray) (S : St) : ByteArray × Int :=
  if (readS s S).1 = 10 then (strOf (readL s (faltS 9 S).2), (readS s (faltS 9 S).2).1) else (strOf (readL s S), (readS s S).1)

theorem own_sl {w : World} {v : Value} {l : List Nat} (h : w.ownsRow 0 5 1 v l.length (l.map byteD)) (hb : ∀ n ∈ l, n < 256) : ∃ a cap, v = .slice a l.length cap ∧ Sl w a cap l := by
  rcases h.2 with ⟨rfl, h0⟩ | ⟨g, cap, cur, rfl, -, hg, h1, h2, h3, h4⟩
  · have : l = [] := List.eq_nil_of_length_eq_zero h0
    subst this
    exact ⟨none, 0, rfl, nil_sl w⟩
  · refine ⟨_, cap, rfl, hb, h1, h2, fun e => (by cases e), .inr ⟨g, 0, rfl, fun i hi => ?_⟩⟩
    have := h.cells (g := g) rfl i (byteD l[i]) (by simp [hi])
    by_cases i0 : i = 0
    · subst i0; simpa [Addr.add, byteD] using this
    · simpa [Addr.add, i0, byteD] using this
/-- What Read gives, as a list of bytes. -/
theorem read_sl {w w' : World} {B : Nat} {s : ByteArray} {S : St} {g : Gh} {e : Ending} (hI : Inv S) (h : ReadPost B s S g w e w') (hB : ∀ k, Foot B g k → w.heap.size ≤ k ∨ True) :
    ∃ a cap, e = .returned (.tuple #[.slice a (readL s S).length cap, .int .i64 (readS s S).1]) ∧ Sl w' a cap (readL s S) ∧ Rep w' B (readS s S).2 g ∧ Fr (fun j => j = B) w w' := by
  obtain ⟨v, w1, rfl, h1, h2, h3, h4⟩ := h
  have hf : Fr (fun j => j = B) w w' := (Fr.of_only (X := fun j => j = B) h2 rfl).later h3
  rcases h4 with ⟨h5, rfl⟩ | ⟨h5, h6⟩
  · have e : readL s S = [] := by unfold readL; rw [if_neg h5]
    rw [e]
    exact ⟨none, 0, rfl, nil_sl w', h1, hf⟩
  · have e : readL s S = (S.F (numD S.Dn s).toNat).bytes := by unfold readL; rw [if_pos h5]
    rw [e]
    obtain ⟨a, cap, rfl, hs⟩ := own_sl h6 (hI.byte _)
    exact ⟨a, cap, rfl, hs, h1, hf⟩

set_option maxRecDepth 100000 in
set_option maxHeartbeats 1000000 in
theorem bytes_any {w : World} {B : Nat} {S : St} {g : Gh} (s : ByteArray) (h : Rep w B S g) (hI : Inv S) (hst : S.steps ≤ 900) (hs : s.size ≤ maxLen) :
    Calls Try.prog 12 #[.pointer (some ⟨B, 0, none⟩), .string s] w fun e w' => e = .returned (.tuple #[.string (bytesS s S).1, .int .i64 (bytesS s S).2]) ∧ Below w.heap.size w w' := by
  have H := Lib.hid h
  have HI := Lib.hid hI
  have HST := Lib.hid hst
  have HS := Lib.hid hs
  have hc1 := clone_any h hI hst
  clear h hI hst hs
  by_cases h10 : (readS s S).1 = 10
  · have HV : Hid (bytesS s S = (strOf (readL s (faltS 9 S).2), (readS s (faltS 9 S).2).1)) := by show _ = _; unfold bytesS; rw [if_pos h10]
    have H10 := Lib.hid h10
    clear h10
    go_enter Try.func12, Try.ntmps12
    go_wp2_with fail
    (with_reducible refine hc1.mono ?_)
    rintro e w1 ⟨C, g1, rfl, r1, n1, b1⟩
    have hrd := read_any s r1 HS.out
    have HN := Lib.hid (And.intro n1 b1)
    clear r1 n1 b1 hc1
    go_wp2_with fail
    (with_reducible refine hrd.mono ?_)
    intro e w2 hpost
    obtain ⟨a, cap, rfl, hsl, hrep, hfr⟩ := read_sl HI.out hpost (fun _ _ => .inr trivial)
    have HB2 : Hid (Below w.heap.size w w2) := HN.out.2.trans (hfr.below HN.out.2.size (fun k hk e => by have := HN.out.1 C (.inl rfl); omega))
    rw [H10.out]
    have hc2 := clone_any (H.out.later HB2.out) HI.out HST.out
    clear hpost hsl hrep hfr hrd
    go_wp2_with fail
    (with_reducible refine hc2.mono ?_)
    rintro e w3 ⟨C2, g2, rfl, r2, n2, b2⟩
    have HN2 := Lib.hid (And.intro n2 b2)
    have hfa := falt_rep 9 r2 (by decide)
    clear r2 n2 b2 hc2
    go_wp2_with fail
    (with_reducible refine hfa.mono ?_)
    rintro e w4 ⟨rfl, g4, r4, f4, q4⟩
    have hrd := read_any s r4 HS.out
    have HF4 := Lib.hid (And.intro f4 q4)
    have HI4 : Hid (Inv (faltS 9 S).2) := HI.out.core _
    clear r4 f4 q4 hfa
    go_wp2_with fail
    (with_reducible refine hrd.mono ?_)
    intro e w5 hpost
    obtain ⟨a5, cap5, rfl, hsl, hrep, hfr⟩ := read_sl HI4.out hpost (fun _ _ => .inr trivial)
    have HB5 : Hid (Below w.heap.size w w5) := by
      have hB3 : Below w.heap.size w w3 := HB2.out.trans (HN2.out.2.mono HB2.out.size)
      have hB4 : Below w.heap.size w w4 := hB3.trans (HF4.out.1.below hB3.size (fun k hk e => by have := HN2.out.1 k e; have := HB2.out.size; omega))
      refine hB4.trans (hfr.below hB4.size (fun k hk e => ?_))
      have := HN2.out.1 C2 (.inl rfl)
      have := HB2.out.size
      omega
    have hcv := conv_sl w5 a5 cap5 _ hsl
    clear hpost hsl hrep hfr hrd
    obtain ⟨l, hl⟩ : ∃ l, readL s (faltS 9 S).2 = l := ⟨_, rfl⟩
    obtain ⟨e5, he5⟩ : ∃ e5, (readS s (faltS 9 S).2).1 = e5 := ⟨_, rfl⟩
    rw [hl, he5] at HV
    rw [hl] at hcv ⊢
    rw [he5]
    clear hl he5
    go_wp2_with fail
    go_ret2
    rw [HV.out]
    exact ⟨rfl, HB5.out⟩
  · have HV : Hid (bytesS s S = (strOf (readL s S), (readS s S).1)) := by show _ = _; unfold bytesS; rw [if_neg h10]
    have h10' : ((readS s S).1 == 10) = false := by simpa using h10
    clear h10
    go_enter Try.func12, Try.ntmps12
    go_wp2_with fail
    (with_reducible refine hc1.mono ?_)
    rintro e w1 ⟨C, g1, rfl, r1, n1, b1⟩
    have hrd := read_any s r1 HS.out
    have HN := Lib.hid (And.intro n1 b1)
    clear r1 n1 b1 hc1
    go_wp2_with fail
    (with_reducible refine hrd.mono ?_)
    intro e w2 hpost
    obtain ⟨a, cap, rfl, hsl, hrep, hfr⟩ := read_sl HI.out hpost (fun _ _ => .inr trivial)
    have HB2 : Hid (Below w.heap.size w w2) := HN.out.2.trans (hfr.below HN.out.2.size (fun k hk e => by have := HN.out.1 C (.inl rfl); omega))
    have hcv := conv_sl w2 a cap _ hsl
    clear hpost hsl hrep hfr hrd
    obtain ⟨l, hl⟩ : ∃ l, readL s S = l := ⟨_, rfl⟩
    obtain ⟨e5, he5⟩ : ∃ e5, (readS s S).1 = e5 := ⟨_, rfl⟩
    rw [hl, he5] at HV
    rw [hl] at hcv ⊢
    rw [he5] at h10' ⊢
    clear hl he5
    go_wp2_with fail
    go_ret2
    rw [HV.out]
    exact ⟨rfl, HB2.out⟩
end Go.Proofs.Ytoiggdcgfbjhpaa
