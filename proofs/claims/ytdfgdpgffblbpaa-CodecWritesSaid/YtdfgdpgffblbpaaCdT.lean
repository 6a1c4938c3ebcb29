/-
  Package codec: an Out's Text and Raw; a copy of bytes, in memory that is new; nil.
-/
import Derived.Test.YtdfgdpgffblbpaaCdN
import Derived.Test.YtdfgdpgffblbpaaCdP
import Derived.Lib.ConvBytes
namespace Go.Proofs.Ytdfgdpgffblbpaa
open Go.ChangeShapes Go.WideShapes Go.ChangeAt Go.RowKit Go.Joins
set_option linter.unusedVariables false

/-- A row of one's own, read. -/
theorem OwnB.sl {w : World} {v : Value} {l : List Nat} (h : OwnB w v l) (hb : IsByte l) : ∃ a c, v = .slice a l.length c ∧ Sl w a c l ∧ ∀ p, a = some p → v.ownBlock = some p.block := by
  rcases h.2 with ⟨rfl, hn⟩ | ⟨g, cap, cur, rfl, h0, hg, h1, h2, h3, h4⟩
  · have e : l = [] := List.eq_nil_of_length_eq_zero hn
    subst e
    exact ⟨none, 0, rfl, nil_sl w, fun p hp => by cases hp⟩
  · refine ⟨some ⟨g, 0, none⟩, cap, rfl, ⟨hb, h1, h2, fun e => (by cases e), .inr ⟨g, 0, rfl, fun i hi => ?_⟩⟩, fun p hp => by cases hp; rfl⟩
    have := World.ownsRow.cells h (g := g) rfl i (byteV l[i]) (by rw [List.getElem?_map, List.getElem?_eq_getElem hi]; rfl)
    by_cases hi0 : i = 0
    · subst hi0; simpa [Addr.add, byteV] using this
    · simpa [Addr.add, hi0, byteV] using this

set_option maxRecDepth 100000 in
/-- bytes.Clone: a copy in memory that is new. -/
theorem clone_new (a : Option Addr) (cap : Nat) (l : List Nat) (w : World) (hl : l.length ≤ 100000) (hs : Sl w a cap l) :
    Calls Try.prog 24 #[.slice a l.length cap] w fun e w' => ∃ sa sc, e = .returned (.slice sa l.length sc) ∧ Sl w' sa sc l ∧ (∀ p, sa = some p → w.heap.size ≤ p.block) ∧ Below w.heap.size w w' := by
  cases a with
  | none =>
    obtain ⟨rfl, rfl⟩ := hs.none rfl
    have hq := eqs_no w
    have HR : Hid (Sl w none 0 []) := nil_sl w
    clear hs
    go_enter Try.func24, Try.ntmps24
    go_wp2_with fail
    go_ret
    exact ⟨_, _, rfl, HR.out, fun p hp => (by cases hp), Below.refl _ _⟩
  | some ad =>
    have hq := eqs_yes ad l.length cap w
    have HBY := Lib.hid hs.byte
    have HB : Hid (Below w.heap.size w (w.alloc (.cells #[] 5))) := (Below.refl _ _).alloc (Nat.le_refl _) _
    have HS : Hid (Sl (w.alloc (.cells #[] 5)) (some ad) cap l) := hs.below HB.out
    have HE : Hid (OwnB (w.alloc (.cells #[] 5)) (.slice (some ⟨w.heap.size, 0, none⟩) 0 0) []) := World.ownsRow_made w #[] 0 (Nat.zero_le _) (by simp) (by simp)
    have hlm := hs.lt
    have hcm : cap ≤ 9223372036854775807 := by have := hs.most; unfold maxLen at this; omega
    clear hs
    go_enter Try.func24, Try.ntmps24
    go_wp2_with (at_builtin; refine wpList_addB _ rfl _ _ rfl (.slice (some ⟨w.heap.size, 0, none⟩) 0 0) [] rfl HE.out (some ad) cap l.length l rfl rfl HS.out (by simp; omega) ?_; intro v2 w2 HR2 hg2 ho2)
    have hw2 := Below.grown HB.out hg2.out (by simp) (fun k hk => by
      have : w.heap.size = k := by simpa [Value.ownBlock] using hk
      omega)
    have HW := Lib.hid hw2
    obtain ⟨a2, c2, rfl, hsl, hob⟩ := HR2.out.sl HBY.out
    have HSL := Lib.hid hsl
    have HOB : Hid (∀ p, a2 = some p → w.heap.size ≤ p.block) := fun p hp => by
      rcases ho2.out with h | h
      · rw [hob p hp] at h
        have : p.block = w.heap.size := by simpa [Value.ownBlock] using h
        omega
      · rw [hob p hp] at h
        have : p.block = _ := Option.some.inj h
        rw [this]
        simp
    clear HR2 hg2 ho2 hsl hob hw2 HE
    go_wp2_with fail
    go_ret
    exact ⟨a2, c2, by simp, by simpa using HSL.out, HOB.out, HW.out⟩

/-! Text. -/

theorem strOf_size (l : List Nat) : (strOf l).size = l.length := by unfold strOf; rw [strOfNums_size, List.length_map]
theorem strOf_get (l : List Nat) (hb : IsByte l) (j : Nat) (hj : j < l.length) : (((strOf l).data.toList.getD j 0).toNat : Int) = ((l[j] : Nat) : Int) := by
  unfold strOf
  rw [strOfNums_data]
  have := hb l[j] (List.getElem_mem hj)
  simp [List.getD, hj]
  omega
/-- '[]byte(s)': bytes in memory that is new. -/
theorem conv_str (w : World) (l : List Nat) (hb : IsByte l) (hl : l.length ≤ 1000000) :
    ∃ c w', (convert 9 28 (.string (strOf l))).run Try.prog w = .ok (.slice (some ⟨w.heap.size, 0, none⟩) l.length c) w' ∧ Sl w' (some ⟨w.heap.size, 0, none⟩) c l ∧ Below w.heap.size w w' := by
  have hr := Go.Lib.run_convert_string_bytes w 9 28 5 (strOf l) Try.underlying9 Try.underlying28 Try.underlying5
  rw [strOf_size] at hr
  refine ⟨_, _, hr, ⟨hb, ?_, ?_, fun e => (by cases e), .inr ⟨w.heap.size, 0, rfl, fun i hi => ?_⟩⟩, ⟨rfl, rfl, rfl, ?_, fun k hk => Go.Lib.bytesWorld_at_old w _ _ k hk⟩⟩
  · have := grownCap_ge w l.length 0 5
    omega
  · exact grownCap_le_maxLen _ _ _ _ (by unfold maxLen; omega)
  · rw [Nat.zero_add, Go.Lib.bytesWorld_cell w _ _ i (by rw [strOf_size]; exact hi), strOf_get l hb i hi]
  · rw [Go.Lib.bytesWorld_size]; omega

theorem addO_text (s : Option (List Nat)) (l : List Nat) : addO (addO s (putN (l.length : Int) 1)) (some l) = addO s (putT l) := by
  rw [addO_assoc]
  have e : (256 : Int) ^ (1 : Int).toNat = 256 := rfl
  have e2 : addO (putN (l.length : Int) 1) (some l) = putT l := by
    unfold putN putT
    by_cases h : l.length ≤ 255
    · rw [if_pos ⟨by omega, by omega, by omega, by rw [e]; omega⟩, if_pos h]
      have h2 : wideN l.length 1 = [l.length] := by
        show [] ++ [l.length % 256] = _
        rw [Nat.mod_eq_of_lt (by omega)]; rfl
      rw [show (1 : Int).toNat = 1 from rfl, Int.toNat_natCast, h2]
      rfl
    · rw [if_neg fun e' => h (by have := e'.2.2.2; rw [e] at this; omega), if_neg h]
      rfl
  rw [e2]

theorem Fr.over {X Y : Nat → Prop} {w w1 w2 : World} (h : Fr X w w1) (k : Fr Y w1 w2) (hy : ∀ j, Y j → X j ∨ w.heap.size ≤ j) : Fr X w w2 :=
  ⟨k.os.trans h.os, k.tape.trans h.tape, k.output.trans h.output, Nat.le_trans h.size k.size, fun j hj hx => by
    rw [k.block j (Nat.lt_of_lt_of_le hj h.size) fun e => (hy j e).elim hx fun h => by omega]
    exact h.block j hj hx⟩
set_option maxRecDepth 100000 in
set_option maxHeartbeats 1000000 in
theorem outT_any (X : Nat → Prop) (w : World) (b : Nat) (s : Option (List Nat)) (q : Nat) (l : List Nat) (h : OutAt X w b s q) (hq : q ≤ 40000) (hb : IsByte l) (hl : l.length ≤ 20000) :
    Calls Try.prog 10 #[.pointer (some ⟨b, 0, none⟩), .string (strOf l)] w (OutPost OutAt X w b (addO s (putT l)) (q + l.length + 6)) := by
  have HN := Lib.hid (outN_any X w b s q (l.length : Int) 1 h hq ⟨by omega, by omega⟩ ⟨by omega, by omega⟩)
  have HS := Lib.hid (strOf_size l)
  have hsz := strOf_size l
  have HBY := Lib.hid hb
  have HX := Lib.hid (addO_text s l)
  clear h hb
  go_enter Try.func10, Try.ntmps10
  go_wp2_with fail
  (with_reducible refine HN.out.mono ?_)
  rintro e w1 ⟨rfl, X1, hX1, hN1, hF1⟩
  have HX1 := Lib.hid hX1
  have HN1 := Lib.hid hN1
  have HF1 := Lib.hid hF1
  obtain ⟨c, w2, hcv, hsl, hbw⟩ := conv_str w1 l HBY.out (by omega)
  have HP := Lib.hid (put_any X1 w2 b (addO s (putN (l.length : Int) 1)) (q + 6) (some ⟨w1.heap.size, 0, none⟩) c l (hX1.keep (Fr.of_below (X := fun _ => False) hbw) (fun _ _ h => h)) hsl fun r hr _ => by
    cases hr
    have := hX1.2.1 b hX1.1
    show w1.heap.size ≠ b
    omega)
  have HBW := Lib.hid hbw
  clear hX1 hN1 hF1 hsl hbw
  go_wp2_with fail
  (with_reducible refine HP.out.mono ?_)
  rintro e w3 ⟨rfl, X3, hX3, hN3, hF3⟩
  go_wp2_with fail
  go_end0
  have h1 := HF1.out.size
  have h2 := HBW.out.size
  refine ⟨rfl, X3, ?_, fun j hj => ?_, ?_⟩
  · rw [← HX.out]
    exact hX3.mono (by omega)
  · rcases hN3 j hj with h | h | ⟨r, hr, rfl⟩
    · exact HN1.out j h
    · exact .inr (by omega)
    · cases hr
      exact .inr h1
  · exact (HF1.out.trans (Fr.of_below HBW.out)).over hF3 fun j hj => HN1.out j hj

set_option maxRecDepth 100000 in
set_option maxHeartbeats 1000000 in
theorem outR_any (X : Nat → Prop) (w : World) (b : Nat) (s : Option (List Nat)) (q : Nat) (a : Option Addr) (c : Nat) (l : List Nat) (h : OutAt X w b s q) (hq : q ≤ 40000) (hs : Sl w a c l) (hl : l.length ≤ 20000) :
    Calls Try.prog 11 #[.pointer (some ⟨b, 0, none⟩), .slice a l.length c] w (OutPost OutAt X w b (addO s (some l)) (q + l.length)) := by
  have HC := Lib.hid (clone_new a c l w (by omega) hs)
  have H := Lib.hid h
  clear h hs
  go_enter Try.func11, Try.ntmps11
  go_wp2_with fail
  (with_reducible refine HC.out.mono ?_)
  rintro e w2 ⟨sa, sc, rfl, hsl, hnew, hbw⟩
  have HP := Lib.hid (put_any X w2 b s q sa sc l (H.out.keep (Fr.of_below (X := fun _ => False) hbw) (fun _ _ h => h)) hsl fun r hr _ => by
    have := H.out.2.1 b H.out.1
    have := hnew r hr
    omega)
  have HBW := Lib.hid hbw
  have HNW := Lib.hid hnew
  clear hsl hbw hnew HC
  go_wp2_with fail
  (with_reducible refine HP.out.mono ?_)
  rintro e w3 ⟨rfl, X3, hX3, hN3, hF3⟩
  go_wp2_with fail
  go_end0
  have h2 := HBW.out.size
  refine ⟨rfl, X3, hX3, fun j hj => ?_, (Fr.of_below HBW.out).trans hF3⟩
  rcases hN3 j hj with h | h | ⟨r, hr, rfl⟩
  · exact .inl h
  · exact .inr (by omega)
  · exact .inr (HNW.out r hr)

/-! Of nothing. -/

set_option maxRecDepth 100000 in
theorem outT_nil (w : World) : Calls Try.prog 10 #[.pointer none, .string (strOf [97])] w fun e w' => e = .returned (.tuple #[]) ∧ Below w.heap.size w w' := by
  have HN := Lib.hid (outN_nil w 1 1 ⟨by omega, by omega⟩ ⟨by omega, by omega⟩)
  have hsz : (strOf [97]).size = 1 := strOf_size [97]
  go_enter Try.func10, Try.ntmps10
  go_wp2_with fail
  (with_reducible refine HN.out.mono ?_)
  rintro e w1 ⟨rfl, hb1⟩
  obtain ⟨c, w2, hcv, hsl, hbw⟩ := conv_str w1 [97] (by simp [IsByte]) (by simp)
  have HP := Lib.hid (put_nil (some ⟨w1.heap.size, 0, none⟩) 1 c w2)
  have HB := Lib.hid (hb1.trans (hbw.mono hb1.size))
  have hcv2 : (convert 9 28 (.string (strOf [97]))).run Try.prog w1 = .ok (.slice (some ⟨w1.heap.size, 0, none⟩) 1 c) w2 := hcv
  clear hsl hbw hb1 hcv
  go_wp2_with fail
  (with_reducible refine HP.out.mono ?_)
  rintro e w3 ⟨rfl, rfl⟩
  go_wp2_with fail
  go_end0
  exact ⟨rfl, HB.out⟩
set_option maxRecDepth 100000 in
theorem outR_nil (w : World) (a : Option Addr) (c : Nat) (hs : Sl w a c [98]) : Calls Try.prog 11 #[.pointer none, .slice a 1 c] w fun e w' => e = .returned (.tuple #[]) ∧ Below w.heap.size w w' := by
  have HC := Lib.hid (clone_new a c [98] w (by simp) hs)
  clear hs
  go_enter Try.func11, Try.ntmps11
  go_wp2_with fail
  refine HC.out.mono ?_
  rintro e w2 ⟨sa, sc, rfl, hsl, hnew, hbw⟩
  have HP := Lib.hid (put_nil sa 1 sc w2)
  have HB := Lib.hid hbw
  clear hsl hbw hnew HC
  go_wp2_with fail
  (with_reducible refine HP.out.mono ?_)
  rintro e w3 ⟨rfl, rfl⟩
  go_wp2_with fail
  go_end0
  exact ⟨rfl, HB.out⟩
end Go.Proofs.Ytdfgdpgffblbpaa
