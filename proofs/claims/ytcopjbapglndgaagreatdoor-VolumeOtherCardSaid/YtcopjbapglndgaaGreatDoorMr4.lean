/-
  Package codec: an Out's Text and Raw; a copy of bytes, in memory that is new; nil.
  Layer 13's law CodecWrites: an Out and the row of bytes beside it.
  A statement that leaves its order open and makes memory: its operations that only read are taken as soon as they may come up, its calls one by one; behind each call the knowledge of the world grows. Nothing of the program's dump is named here.
  A statement that leaves its order open, makes memory, and writes old memory by its last operation alone, which waits for all others. As Grow, but the last operation may leave the class of worlds. Nothing of the program's dump is named here.
  A statement that leaves its order open, whose operations write, the last one whatever it likes: any class of worlds up to the last one; the world itself is known at each step. Nothing of the program's dump is named here.
-/
import Derived.Test.YtcopjbapglndgaaGreatDoorMr3
import Derived.Lib.ConvBytes
import Derived.Deep.RegionHeld3
import Derived.Deep.QuietTactic
import Derived.BigQuiet
import Derived.Lib.QuietBelow
section
namespace Go.Proofs.YtcopjbapglndgaaGreatDoor
open Go.ChangeShapes Go.WideShapes Go.ChangeAt Go.RowKit Go.Joins
set_option linter.unusedVariables false

/-- A row of one's own, read. -/
theorem OwnB.sl {w : World} {v : Value} {l : List Nat} (h : OwnB w v l) (hb : IsByte l) : ∃ a c, v = .slice a l.length c ∧ Sl w a c l ∧ ∀ p, a = some p → v.ownBlock = some p.block := by
  rcases h.2 with ⟨rfl, hn⟩ | ⟨g, cap, cur, rfl, h0, hg, h1, h2, h3, h4⟩
  · have e : l = [] := List.eq_nil_of_length_eq_zero hn
    subst e
    exact ⟨none, 0, rfl, nil_sl w, fun p hp => by cases hp⟩
  · refine ⟨some ⟨g, 0, none⟩, cap, rfl, ⟨hb, h1, h2, fun e => (by cases e), .inr ⟨g, 0, rfl, fun i hi => ?_⟩⟩, fun p hp => by cases hp; rfl⟩
    have := World.ownsRow.cells h (g := g) rfl i (byteV l[i]) (by rw [List.getElem?_map, List.getElem?_eq_getElem hi]; rfl)
    by_cases hi0 : i = 0
    · subst hi0; simpa [Addr.add, byteV] using this
    · simpa [Addr.add, hi0, byteV] using this

set_option maxRecDepth 100000 in
/-- bytes.Clone: a copy in memory that is new. -/
theorem clone_new (a : Option Addr) (cap : Nat) (l : List Nat) (w : World) (hl : l.length ≤ 100000) (hs : Sl w a cap l) :
    Calls Tryz.prog 23 #[.slice a l.length cap] w fun e w' => ∃ sa sc, e = .returned (.slice sa l.length sc) ∧ Sl w' sa sc l ∧ (∀ p, sa = some p → w.heap.size ≤ p.block) ∧ Below w.heap.size w w' := by
  cases a with
  | none =>
    obtain ⟨rfl, rfl⟩ := hs.none rfl
    have hq := eqs_no w
    have HR : Hid (Sl w none 0 []) := nil_sl w
    clear hs
    go_enter Tryz.func23, Tryz.ntmps23
    go_wp2_with fail
    go_ret
    exact ⟨_, _, rfl, HR.out, fun p hp => (by cases hp), Below.refl _ _⟩
  | some ad =>
    have hq := eqs_yes ad l.length cap w
    have HBY := Lib.hid hs.byte
    have HB : Hid (Below w.heap.size w (w.alloc (.cells #[] 5))) := (Below.refl _ _).alloc (Nat.le_refl _) _
    have HS : Hid (Sl (w.alloc (.cells #[] 5)) (some ad) cap l) := hs.below HB.out
    have HE : Hid (OwnB (w.alloc (.cells #[] 5)) (.slice (some ⟨w.heap.size, 0, none⟩) 0 0) []) := World.ownsRow_made w #[] 0 (Nat.zero_le _) (by simp) (by simp)
    have hlm := hs.lt
    have hcm : cap ≤ 9223372036854775807 := by have := hs.most; unfold maxLen at this; omega
    clear hs
    go_enter Tryz.func23, Tryz.ntmps23
    go_wp2_with (at_builtin; refine wpList_addB _ rfl _ _ rfl (.slice (some ⟨w.heap.size, 0, none⟩) 0 0) [] rfl HE.out (some ad) cap l.length l rfl rfl HS.out (by simp; omega) ?_; intro v2 w2 HR2 hg2 ho2)
    have hw2 := Below.grown HB.out hg2.out (by simp) (fun k hk => by
      have : w.heap.size = k := by simpa [Value.ownBlock] using hk
      omega)
    have HW := Lib.hid hw2
    obtain ⟨a2, c2, rfl, hsl, hob⟩ := HR2.out.sl HBY.out
    have HSL := Lib.hid hsl
    have HOB : Hid (∀ p, a2 = some p → w.heap.size ≤ p.block) := fun p hp => by
      rcases ho2.out with h | h
      · rw [hob p hp] at h
        have : p.block = w.heap.size := by simpa [Value.ownBlock] using h
        omega
      · rw [hob p hp] at h
        have : p.block = _ := Option.some.inj h
        rw [this]
        simp
    clear HR2 hg2 ho2 hsl hob hw2 HE
    go_wp2_with fail
    go_ret
    exact ⟨a2, c2, by simp, by simpa using HSL.out, HOB.out, HW.out⟩

/-! Text. -/

theorem strOf_size (l : List Nat) : (strOf l).size = l.length := by unfold strOf; rw [strOfNums_size, List.length_map]
theorem strOf_get (l : List Nat) (hb : IsByte l) (j : Nat) (hj : j < l.length) : (((strOf l).data.toList.getD j 0).toNat : Int) = ((l[j] : Nat) : Int) := by
  unfold strOf
  rw [strOfNums_data]
  have := hb l[j] (List.getElem_mem hj)
  simp [List.getD, hj]
  omega
/-- '[]byte(s)': bytes in memory that is new. -/
theorem conv_str (w : World) (l : List Nat) (hb : IsByte l) (hl : l.length ≤ 1000000) :
    ∃ c w', (convert 9 35 (.string (strOf l))).run Tryz.prog w = .ok (.slice (some ⟨w.heap.size, 0, none⟩) l.length c) w' ∧ Sl w' (some ⟨w.heap.size, 0, none⟩) c l ∧ Below w.heap.size w w' := by
  have hr := Go.Lib.run_convert_string_bytes w 9 35 5 (strOf l) Tryz.underlying9 Tryz.underlying35 Tryz.underlying5
  rw [strOf_size] at hr
  refine ⟨_, _, hr, ⟨hb, ?_, ?_, fun e => (by cases e), .inr ⟨w.heap.size, 0, rfl, fun i hi => ?_⟩⟩, ⟨rfl, rfl, rfl, ?_, fun k hk => Go.Lib.bytesWorld_at_old w _ _ k hk⟩⟩
  · have := grownCap_ge w l.length 0 5
    omega
  · exact grownCap_le_maxLen _ _ _ _ (by unfold maxLen; omega)
  · rw [Nat.zero_add, Go.Lib.bytesWorld_cell w _ _ i (by rw [strOf_size]; exact hi), strOf_get l hb i hi]
  · rw [Go.Lib.bytesWorld_size]; omega

theorem addO_text (s : Option (List Nat)) (l : List Nat) : addO (addO s (putN (l.length : Int) 1)) (some l) = addO s (putT l) := by
  rw [addO_assoc]
  have e : (256 : Int) ^ (1 : Int).toNat = 256 := rfl
  have e2 : addO (putN (l.length : Int) 1) (some l) = putT l := by
    unfold putN putT
    by_cases h : l.length ≤ 255
    · rw [if_pos ⟨by omega, by omega, by omega, by rw [e]; omega⟩, if_pos h]
      have h2 : wideN l.length 1 = [l.length] := by
        show [] ++ [l.length % 256] = _
        rw [Nat.mod_eq_of_lt (by omega)]; rfl
      rw [show (1 : Int).toNat = 1 from rfl, Int.toNat_natCast, h2]
      rfl
    · rw [if_neg fun e' => h (by have := e'.2.2.2; rw [e] at this; omega), if_neg h]
      rfl
  rw [e2]

theorem Fr.over {X Y : Nat → Prop} {w w1 w2 : World} (h : Fr X w w1) (k : Fr Y w1 w2) (hy : ∀ j, Y j → X j ∨ w.heap.size ≤ j) : Fr X w w2 :=
  ⟨k.os.trans h.os, k.tape.trans h.tape, k.output.trans h.output, Nat.le_trans h.size k.size, fun j hj hx => by
    rw [k.block j (Nat.lt_of_lt_of_le hj h.size) fun e => (hy j e).elim hx fun h => by omega]
    exact h.block j hj hx⟩
set_option maxRecDepth 100000 in
set_option maxHeartbeats 1000000 in
theorem outT_any (X : Nat → Prop) (w : World) (b : Nat) (s : Option (List Nat)) (q : Nat) (l : List Nat) (h : OutAt X w b s q) (hq : q ≤ 40000) (hb : IsByte l) (hl : l.length ≤ 20000) :
    Calls Tryz.prog 86 #[.pointer (some ⟨b, 0, none⟩), .string (strOf l)] w (OutPost OutAt X w b (addO s (putT l)) (q + l.length + 6)) := by
  have HN := Lib.hid (outN_any X w b s q (l.length : Int) 1 h hq ⟨by omega, by omega⟩ ⟨by omega, by omega⟩)
  have HS := Lib.hid (strOf_size l)
  have hsz := strOf_size l
  have HBY := Lib.hid hb
  have HX := Lib.hid (addO_text s l)
  clear h hb
  go_enter Tryz.func86, Tryz.ntmps86
  go_wp2_with fail
  (with_reducible refine HN.out.mono ?_)
  rintro e w1 ⟨rfl, X1, hX1, hN1, hF1⟩
  have HX1 := Lib.hid hX1
  have HN1 := Lib.hid hN1
  have HF1 := Lib.hid hF1
  obtain ⟨c, w2, hcv, hsl, hbw⟩ := conv_str w1 l HBY.out (by omega)
  have HP := Lib.hid (put_any X1 w2 b (addO s (putN (l.length : Int) 1)) (q + 6) (some ⟨w1.heap.size, 0, none⟩) c l (hX1.keep (Fr.of_below (X := fun _ => False) hbw) (fun _ _ h => h)) hsl fun r hr _ => by
    cases hr
    have := hX1.2.1 b hX1.1
    show w1.heap.size ≠ b
    omega)
  have HBW := Lib.hid hbw
  clear hX1 hN1 hF1 hsl hbw
  go_wp2_with fail
  (with_reducible refine HP.out.mono ?_)
  rintro e w3 ⟨rfl, X3, hX3, hN3, hF3⟩
  go_wp2_with fail
  go_end0
  have h1 := HF1.out.size
  have h2 := HBW.out.size
  refine ⟨rfl, X3, ?_, fun j hj => ?_, ?_⟩
  · rw [← HX.out]
    exact hX3.mono (by omega)
  · rcases hN3 j hj with h | h | ⟨r, hr, rfl⟩
    · exact HN1.out j h
    · exact .inr (by omega)
    · cases hr
      exact .inr h1
  · exact (HF1.out.trans (Fr.of_below HBW.out)).over hF3 fun j hj => HN1.out j hj

set_option maxRecDepth 100000 in
set_option maxHeartbeats 1000000 in
theorem outR_any (X : Nat → Prop) (w : World) (b : Nat) (s : Option (List Nat)) (q : Nat) (a : Option Addr) (c : Nat) (l : List Nat) (h : OutAt X w b s q) (hq : q ≤ 40000) (hs : Sl w a c l) (hl : l.length ≤ 20000) :
    Calls Tryz.prog 78 #[.pointer (some ⟨b, 0, none⟩), .slice a l.length c] w (OutPost OutAt X w b (addO s (some l)) (q + l.length)) := by
  have HC := Lib.hid (clone_new a c l w (by omega) hs)
  have H := Lib.hid h
  clear h hs
  go_enter Tryz.func78, Tryz.ntmps78
  go_wp2_with fail
  (with_reducible refine HC.out.mono ?_)
  rintro e w2 ⟨sa, sc, rfl, hsl, hnew, hbw⟩
  have HP := Lib.hid (put_any X w2 b s q sa sc l (H.out.keep (Fr.of_below (X := fun _ => False) hbw) (fun _ _ h => h)) hsl fun r hr _ => by
    have := H.out.2.1 b H.out.1
    have := hnew r hr
    omega)
  have HBW := Lib.hid hbw
  have HNW := Lib.hid hnew
  clear hsl hbw hnew HC
  go_wp2_with fail
  (with_reducible refine HP.out.mono ?_)
  rintro e w3 ⟨rfl, X3, hX3, hN3, hF3⟩
  go_wp2_with fail
  go_end0
  have h2 := HBW.out.size
  refine ⟨rfl, X3, hX3, fun j hj => ?_, (Fr.of_below HBW.out).trans hF3⟩
  rcases hN3 j hj with h | h | ⟨r, hr, rfl⟩
  · exact .inl h
  · exact .inr (by omega)
  · exact .inr (HNW.out r hr)

/-! Of nothing. -/

set_option maxRecDepth 100000 in
theorem outT_nil (w : World) : Calls Tryz.prog 86 #[.pointer none, .string (strOf [97])] w fun e w' => e = .returned (.tuple #[]) ∧ Below w.heap.size w w' := by
  have HN := Lib.hid (outN_nil w 1 1 ⟨by omega, by omega⟩ ⟨by omega, by omega⟩)
  have hsz : (strOf [97]).size = 1 := strOf_size [97]
  go_enter Tryz.func86, Tryz.ntmps86
  go_wp2_with fail
  (with_reducible refine HN.out.mono ?_)
  rintro e w1 ⟨rfl, hb1⟩
  obtain ⟨c, w2, hcv, hsl, hbw⟩ := conv_str w1 [97] (by simp [IsByte]) (by simp)
  have HP := Lib.hid (put_nil (some ⟨w1.heap.size, 0, none⟩) 1 c w2)
  have HB := Lib.hid (hb1.trans (hbw.mono hb1.size))
  have hcv2 : (convert 9 35 (.string (strOf [97]))).run Tryz.prog w1 = .ok (.slice (some ⟨w1.heap.size, 0, none⟩) 1 c) w2 := hcv
  clear hsl hbw hb1 hcv
  go_wp2_with fail
  (with_reducible refine HP.out.mono ?_)
  rintro e w3 ⟨rfl, rfl⟩
  go_wp2_with fail
  go_end0
  exact ⟨rfl, HB.out⟩
set_option maxRecDepth 100000 in
theorem outR_nil (w : World) (a : Option Addr) (c : Nat) (hs : Sl w a c [98]) : Calls Tryz.prog 78 #[.pointer none, .slice a 1 c] w fun e w' => e = .returned (.tuple #[]) ∧ Below w.heap.size w w' := by
  have HC := Lib.hid (clone_new a c [98] w (by simp) hs)
  clear hs
  go_enter Tryz.func78, Tryz.ntmps78
  go_wp2_with fail
  refine HC.out.mono ?_
  rintro e w2 ⟨sa, sc, rfl, hsl, hnew, hbw⟩
  have HP := Lib.hid (put_nil sa 1 sc w2)
  have HB := Lib.hid hbw
  clear hsl hbw hnew HC
  go_wp2_with fail
  (with_reducible refine HP.out.mono ?_)
  rintro e w3 ⟨rfl, rfl⟩
  go_wp2_with fail
  go_end0
  exact ⟨rfl, HB.out⟩
end Go.Proofs.YtcopjbapglndgaaGreatDoor
end

section
namespace Go.Proofs.YtcopjbapglndgaaGreatDoor
open Go.ChangeShapes Go.WideShapes Go.ChangeAt Go.RowKit Go.Joins
set_option linter.unusedVariables false

/-- An Out (block b) that has s, and beside it a row v of one's own that reads as W. -/
structure Mid (Od : (Nat → Prop) → World → Nat → Option (List Nat) → Nat → Prop) (w0 : World) (b q : Nat) (w : World) (v : Value) (s : Option (List Nat)) (W : List Nat) : Prop where
  own : OwnB w v W
  od : ∃ X, Od X w b s q ∧ ∀ j, X j → w0.heap.size ≤ j ∧ v.ownBlock ≠ some j
  low : ∀ j, v.ownBlock = some j → w0.heap.size ≤ j
  below : Below w0.heap.size w0 w
variable {Od : (Nat → Prop) → World → Nat → Option (List Nat) → Nat → Prop}
theorem Mid.later (HC : OutC Od) {w0 w w' : World} {b q : Nat} {v : Value} {s : Option (List Nat)} {W : List Nat} (h : Mid Od w0 b q w v s W) (k : Below w.heap.size w w') : Mid Od w0 b q w' v s W := by
  obtain ⟨X, h1, h2⟩ := h.od
  exact ⟨h.own.fr (Fr.of_below (X := fun _ => False) k) (fun _ _ h => h), ⟨X, HC.keep h1 (Fr.of_below (X := fun _ => False) k) (fun _ _ h => h), h2⟩, h.low, h.below.trans (k.mono h.below.size)⟩
theorem Mid.mono (HC : OutC Od) {w0 w : World} {b q q' : Nat} {v : Value} {s : Option (List Nat)} {W : List Nat} (h : Mid Od w0 b q w v s W) (hq : q ≤ q') : Mid Od w0 b q' w v s W := by
  obtain ⟨X, h1, h2⟩ := h.od
  exact ⟨h.own, ⟨X, HC.mono h1 hq, h2⟩, h.low, h.below⟩
/-- Something is put. -/
theorem Mid.put (HC : OutC Od) {w0 w : World} {b q q' : Nat} {v : Value} {s s' : Option (List Nat)} {W : List Nat} (h : Mid Od w0 b q w v s W) {f : FuncId} {args : Array Value}
    (hc : ∀ X, Od X w b s q → (∀ j, X j → w0.heap.size ≤ j) → Calls Tryz.prog f args w (OutPost Od X w b s' q')) : Calls Tryz.prog f args w fun e w' => e = .returned (.tuple #[]) ∧ Mid Od w0 b q' w' v s' W := by
  obtain ⟨X, h1, h2⟩ := h.od
  have hlt := fun j (e : v.ownBlock = some j) => (show j < w.heap.size by
    rcases h.own.2 with ⟨e1, _⟩ | ⟨g, cap, cur, e1, _, hg, _⟩
    · rw [e1] at e; cases e
    · rw [e1] at e
      cases e
      exact (Array.getElem?_eq_some_iff.1 hg).1)
  refine (hc X h1 fun j hj => (h2 j hj).1).mono ?_
  rintro e w' ⟨rfl, X', h3, h4, h5⟩
  refine ⟨rfl, h.own.fr h5 (fun j hj hX => (h2 j hX).2 hj), ⟨X', h3, fun j hj => ?_⟩, h.low, h.below.trans (h5.below h.below.size fun j hj hX => by have := (h2 j hX).1; omega)⟩
  rcases h4 j hj with h6 | h6
  · exact h2 j h6
  · have := h.below.size
    exact ⟨by omega, fun e => by have := hlt j e; omega⟩
/-- Bytes are appended to the row. -/
theorem Mid.add (HC : OutC Od) {w0 w w' : World} {b q : Nat} {v v' : Value} {s : Option (List Nat)} {W m : List Nat} (h : Mid Od w0 b q w v s W) (h1 : OwnB w' v' (W ++ m)) (h2 : w.grownBy w' v.ownBlock) (h3 : v'.ownBlock = v.ownBlock ∨ v'.ownBlock = some w.heap.size) : Mid Od w0 b q w' v' s (W ++ m) := by
  obtain ⟨X, k1, k2⟩ := h.od
  have hf : Fr (fun j => v.ownBlock = some j) w w' := Fr.of_grown h2 fun j e => e
  refine ⟨h1, ⟨X, HC.keep k1 hf fun j hj e => (k2 j hj).2 e, fun j hj => ⟨(k2 j hj).1, fun e => ?_⟩⟩, fun j hj => ?_, h.below.trans (hf.below h.below.size fun j hj e => by have := h.low j e; omega)⟩
  · rcases h3 with h4 | h4
    · rw [h4] at e; exact (k2 j hj).2 e
    · rw [h4] at e
      have := HC.lt k1 j hj
      have := Option.some.inj e
      omega
  · rcases h3 with h4 | h4
    · exact h.low j (by rw [← h4]; exact hj)
    · rw [h4] at hj
      have := Option.some.inj hj
      have := h.below.size
      omega
theorem Mid.start (HC : OutC Od) (w1 w0 : World) (k : Below w0.heap.size w0 w1) : Mid Od w0 w1.heap.size 0 (w1.alloc (.cells outZ 122)) (.slice none 0 0) (some []) [] :=
  ⟨OwnB.nil _, ⟨_, HC.zero w1, fun j hj => ⟨by have := k.size; omega, by simp [Value.ownBlock]⟩⟩, fun j hj => by simp [Value.ownBlock] at hj, k.trans (((Below.refl _ _).alloc (Nat.le_refl _) _).mono k.size)⟩
end Go.Proofs.YtcopjbapglndgaaGreatDoor
end

section
namespace Go.Proofs.YtcopjbapglndgaaGreatDoor
open Go.RowKit Go.Sort
set_option linter.unusedVariables false

/-- An operation that yields a value, if it yields anything. -/
def plainOp : Op → Bool
  | .move _ | .assign _ | .pick .. | .nilCheck .. | .load .. | .binOp .. | .unOp .. | .convert .. | .makeInterface .. | .slice .. | .fieldAddr .. | .field .. | .indexAddr .. | .index .. | .lookup .. | .extract .. => true
  | .call c => match c.callee with | .builtin .len | .builtin .min | .builtin .max => true | _ => false
  | _ => false

section
variable {P : Program} {ops : Array Oper} {Q : Exit → Act → World → Prop} {C : World → Prop}

theorem run_value {s : Sem Value} {w w' : World} {n : Next} (h : (do pure (Next.value (← s)) : Sem Next).run P w = .ok n w') : ∃ v, n = .value v := by
  rw [Sem.run_bind] at h
  cases hs : s.run P w with
  | ok x w1 =>
    rw [hs] at h
    simp only [Result.andThen, Sem.run_pure] at h
    cases h
    exact ⟨_, rfl⟩
  | halt x w1 =>
    rw [hs] at h
    simp [Result.andThen] at h

theorem val_bind {β : Type} {s : Sem β} {f : β → Sem Next} (hf : ∀ b w1 w2 n, (f b).run P w1 = .ok n w2 → ∃ v, n = .value v) {w w' : World} {n : Next} (h : (s >>= f).run P w = .ok n w') : ∃ v, n = .value v := by
  rw [Sem.run_bind] at h
  cases hs : s.run P w with
  | ok x w1 =>
    rw [hs] at h
    exact hf x w1 w' n h
  | halt x w1 =>
    rw [hs] at h
    simp [Result.andThen] at h
theorem val_pure {v : Value} {w w' : World} {n : Next} (h : (pure (Next.value v) : Sem Next).run P w = .ok n w') : ∃ v, n = .value v := by
  rw [Sem.run_pure] at h; cases h; exact ⟨_, rfl⟩

theorem plain_value {o : Oper} {ρ : Operand → Value} {w w' : World} {n : Next} (hp : plainOp o.op = true) (h : (execOp ρ o).run P w = .ok n w') : ∃ v, n = .value v := by
  obtain ⟨dst, op, type, pos, after, guard⟩ := o
  cases op <;> simp only [plainOp, Bool.false_eq_true] at hp <;> simp only [execOp] at h
  case move x => rw [Sem.run_pure] at h; cases h; exact ⟨_, rfl⟩
  case assign x => rw [Sem.run_pure] at h; cases h; exact ⟨_, rfl⟩
  case nilCheck x =>
    split at h
    · simp [runtimePanic, goPanic, go_sem] at h
    · simp [runtimePanic, goPanic, go_sem] at h
    · simp [runtimePanic, goPanic, go_sem] at h
    · split at h
      · simp [runtimePanic, goPanic, go_sem] at h
      · refine val_bind (fun b w1 w2 n h => ?_) h
        refine val_bind (fun b w1 w2 n h => ?_) h
        split at h
        · exact val_bind (fun b w1 w2 n h => val_pure h) h
        · exact val_pure h
      · exact val_pure h
    · exact val_pure h
  case call c =>
    cases hc : c.callee <;> simp only [hc, Bool.false_eq_true] at hp
    rename_i b
    cases b <;> simp only [Bool.false_eq_true] at hp
    all_goals simp only [resolve, hc] at h
    all_goals first | exact run_value (s := Builtin.len_ _ _ _) h | exact run_value (s := Builtin.min_ _ _ _) h | exact run_value (s := Builtin.max_ _ _ _) h
  case pick x y z =>
    rw [Sem.run_bind] at h
    cases hs : (asBool (ρ x)).run P w with
    | ok q w1 =>
      rw [hs] at h
      simp only [Result.andThen, Sem.run_pure] at h
      cases h
      exact ⟨_, rfl⟩
    | halt q w1 =>
      rw [hs] at h
      simp [Result.andThen] at h
  all_goals exact run_value h

/-- The operations of this list may come up one behind the other, each apart from all that don't wait for it, each plain. -/
def takesB (ops : Array Oper) : List Nat → Array Bool → Bool
  | [], _ => true
  | i :: is, listed => (Region.ready .any ops listed).contains i && Region.free .any ops listed i && ((ops[i]?).map fun o => plainOp o.op).getD false && takesB ops is (listed.setIfInBounds i true)
def marks : List Nat → Array Bool → Array Bool
  | [], listed => listed
  | i :: is, listed => marks is (listed.setIfInBounds i true)
def opsAt (ops : Array Oper) : List Nat → List Oper
  | [] => []
  | i :: is => match ops[i]? with
    | some o => o :: opsAt ops is
    | none => opsAt ops is

theorem yieldsIf_of_quiet {o : Oper} {a : Act} {v : Value} (hp : plainOp o.op = true) (hw : Region.wanted o (yielded ops a.tmps) = true) (h : ∀ w, C w → o.quietAt P a C w v) : YieldsIf P ops C o v a := by
  refine .inl ⟨hw, fun w hC => ?_⟩
  have h1 := h w hC
  unfold Oper.quietAt at h1
  cases hr : (execOp a.eval o).run P w with
  | ok n w' =>
    rw [hr] at h1
    obtain ⟨u, rfl⟩ := plain_value hp hr
    simp only [Oper.quietUpon] at h1
    rw [h1.1, h1.2]
  | halt x w' =>
    rw [hr] at h1
    simp only [Oper.quietUpon] at h1

/-- Plain operations, as soon as they may come up. -/
theorem grow_take (hs : Region.noSelect ops = true) : ∀ (is : List Nat) (n : Nat) (listed : Array Bool) (a : Act), takesB ops is listed = true →
    wpQuiet P ops C (fun a' => ∀ w, C w → wpAnyH P .any ops (NoPanic Q) C n (marks is listed) a' w) (opsAt ops is) a → ∀ w, C w → wpAnyH P .any ops (NoPanic Q) C (n + is.length) listed a w
  | [], n, listed, a, _, h, w, hw => h w hw
  | i :: is, n, listed, a, hB, h, w, hw => by
    simp only [takesB, Bool.and_eq_true] at hB
    obtain ⟨⟨⟨hr, hf⟩, hp⟩, hB'⟩ := hB
    cases ho : ops[i]? with
    | none => rw [ho] at hp; simp at hp
    | some o =>
      rw [ho] at hp
      have hp' : plainOp o.op = true := by simpa using hp
      simp only [opsAt, ho, wpQuiet] at h
      have key : ∃ v, YieldsIf P ops C o v a ∧ wpQuiet P ops C (fun a' => ∀ w, C w → wpAnyH P .any ops (NoPanic Q) C n (marks is (listed.setIfInBounds i true)) a' w) (opsAt ops is) (a.put o.dst v) := by
        by_cases hwt : Region.wanted o (yielded ops a.tmps) = true
        · rw [if_pos hwt] at h
          obtain ⟨v, h1, h2⟩ := h
          exact ⟨v, yieldsIf_of_quiet hp' hwt h1, h2⟩
        · rw [if_neg hwt] at h
          exact ⟨undef, .inr ⟨by simpa using hwt, rfl⟩, h⟩
      obtain ⟨v, hy, hq⟩ := key
      exact wpAnyH_take ho hs hf hr (fun _ _ _ h => h) hy hw (grow_take hs is n (listed.setIfInBounds i true) (a.put o.dst v) hB' hq w hw)

/-- To know more is no harm. -/
theorem wpAnyH_strong {C' : World → Prop} (h : ∀ w, C' w → C w) : ∀ (n : Nat) (listed : Array Bool) (a : Act) (w : World), wpAnyH P .any ops Q C' n listed a w → wpAnyH P .any ops Q C n listed a w
  | 0, _, _, _, hh => hh
  | n + 1, _, _, _, hh => ⟨hh.1, fun i hi => wpOp_mono (fun a' w' ⟨h1, h2⟩ => ⟨h _ h1, wpAnyH_strong h n _ a' w' h2⟩) (hh.2 i hi)⟩

/-- All worlds that come out of w by making memory. -/
def upOf (w : World) (w' : World) : Prop := ∃ p : Regrown, w' = grow (redrawn w p.d) p.os

theorem up_of_below {w w' : World} (h : Below w.heap.size w w') : ∃ p : Regrown, w' = grow (redrawn w p.d) p.os := regrown_of_below h
theorem below_of_up {w w' : World} (h : ∃ p : Regrown, w' = grow (redrawn w p.d) p.os) : Below w.heap.size w w' := by
  obtain ⟨p, rfl⟩ := h
  exact below_regrown w p.d p.os

/-- The beginning. -/
theorem grow_begin {id : Nat} {a : Act} {w : World} {l : List Oper} (hm : P.follows .mixedOrders = true)
    (h : ∀ w', (∃ p : Regrown, w' = grow (redrawn w p.d) p.os) → wpAnyH P .any l.toArray (NoPanic Q) (fun w' => ∃ p : Regrown, w' = grow (redrawn w p.d) p.os) l.length (Array.replicate l.length false) a w') : (Code.region id l.toArray true).wp P Q a w := by
  refine wp_region_noPanic (wp_region_held_drew (S := fun w' => ∃ p : Regrown, w' = grow (redrawn w p.d) p.os) hm ?_ fun hS => ?_)
  · exact regrown_of_below ((Below.refl _ _).drew)
  · have := h w.drew hS
    simpa using this

/-- What is asked of operation o. -/
def stepOf (P : Program) (ops : Array Oper) (Q : Exit → Act → World → Prop) (K : Act → World → Prop) (a : Act) (w : World) : Option Oper → Prop
  | none => False
  | some o => if Region.wanted o (yielded ops a.tmps) = true then Oper.wp P o a w K Q else K (a.put o.dst undef) w

/-- Whichever of those that may come up comes up: behind it the worlds are those that come out of the world there. -/
theorem grow_all (rs : List Nat) {n : Nat} {listed : Array Bool} {a : Act} {w0 w : World} (hr : Region.ready .any ops listed = rs) (hne : rs ≠ []) (hw : ∃ p : Regrown, w = grow (redrawn w0 p.d) p.os)
    (h : ∀ i ∈ rs, ∀ K : Act → World → Prop, Shut (∀ a' w1, Below w.heap.size w w1 → (∀ w', (∃ p : Regrown, w' = grow (redrawn w1 p.d) p.os) → wpAnyH P .any ops (NoPanic Q) (fun w' => ∃ p : Regrown, w' = grow (redrawn w1 p.d) p.os) n (listed.setIfInBounds i true) a' w') → K a' w1) →
      stepOf P ops (NoPanic Q) K a w ops[i]?) : wpAnyH P .any ops (NoPanic Q) (fun w' => ∃ p : Regrown, w' = grow (redrawn w0 p.d) p.os) (n + 1) listed a w := by
  refine wpAnyH_all hr hne fun j hj => ?_
  have hb0 := below_of_up hw
  have hs := h j hj (fun a' w' => (∃ p : Regrown, w' = grow (redrawn w0 p.d) p.os) ∧ wpAnyH P .any ops (NoPanic Q) (fun w' => ∃ p : Regrown, w' = grow (redrawn w0 p.d) p.os) n (listed.setIfInBounds j true) a' w') (fun a' w1 hb hh => by
    have hb1 : Below w0.heap.size w0 w1 := hb0.trans (hb.mono hb0.size)
    exact ⟨regrown_of_below hb1, wpAnyH_strong (fun w' hw' => regrown_of_below (hb1.trans ((below_of_up hw').mono hb1.size))) _ _ _ _ (hh w1 (regrown_of_below (Below.refl _ _)))⟩)
  unfold wpOp
  cases ho : ops[j]? with
  | none => rw [ho] at hs; exact hs.elim
  | some o =>
    rw [ho] at hs
    simp only [stepOf] at hs
    show if Region.wanted o (yielded ops a.tmps) = true then _ else _
    by_cases hwt : Region.wanted o (yielded ops a.tmps) = true
    · rw [if_pos hwt] at hs ⊢; exact .inl hs
    · rw [if_neg hwt] at hs ⊢; exact hs

/-- One operation that alone may come up. -/
theorem grow_one (i : Nat) {n : Nat} {listed : Array Bool} {a : Act} {w0 w : World} (hr : Region.ready .any ops listed = [i]) (hw : ∃ p : Regrown, w = grow (redrawn w0 p.d) p.os)
    (h : ∀ K : Act → World → Prop, Shut (∀ a' w1, Below w.heap.size w w1 → (∀ w', (∃ p : Regrown, w' = grow (redrawn w1 p.d) p.os) → wpAnyH P .any ops (NoPanic Q) (fun w' => ∃ p : Regrown, w' = grow (redrawn w1 p.d) p.os) n (listed.setIfInBounds i true) a' w') → K a' w1) →
      stepOf P ops (NoPanic Q) K a w ops[i]?) : wpAnyH P .any ops (NoPanic Q) (fun w' => ∃ p : Regrown, w' = grow (redrawn w0 p.d) p.os) (n + 1) listed a w :=
  grow_all [i] hr (by simp) hw fun j hj => by
    obtain rfl : j = i := by simpa using hj
    exact h

/-- All have come up. -/
theorem grow_done {n : Nat} {listed : Array Bool} {a : Act} {w0 w : World} (hr : Region.ready .any ops listed = []) (h : Q .normal a w) : wpAnyH P .any ops (NoPanic Q) (fun w' => ∃ p : Regrown, w' = grow (redrawn w0 p.d) p.os) n listed a w :=
  wpAnyH_done hr (NoPanic.normal h) n

end
end Go.Proofs.YtcopjbapglndgaaGreatDoor
end

section
namespace Go.Proofs.YtcopjbapglndgaaGreatDoor
open Go.RowKit Go.Sort
set_option linter.unusedVariables false

section
variable {P : Program} {ops : Array Oper} {Q : Exit → Act → World → Prop} {C : World → Prop} {last : Nat}

/-- Whatever order is picked from here on; behind each operation but the last one the class is kept. -/
def wpAnyT (P : Program) (ops : Array Oper) (Q : Exit → Act → World → Prop) (C : World → Prop) (last : Nat) : Nat → Array Bool → Act → World → Prop
  | 0, listed, a, w => Region.ready .any ops listed = [] ∧ Q .normal a w
  | fuel + 1, listed, a, w =>
    (Region.ready .any ops listed = [] → Q .normal a w) ∧
    ∀ i ∈ Region.ready .any ops listed, wpOp P ops Q i (fun a' w' => ((listed.setIfInBounds i true).getD last true = false → C w') ∧ wpAnyT P ops Q C last fuel (listed.setIfInBounds i true) a' w') a w

theorem wpAny_of_T : ∀ (fuel : Nat) (listed : Array Bool) (a : Act) (w : World), wpAnyT P ops Q C last fuel listed a w → wpAny P .any ops Q fuel listed a w
  | 0, _, _, _, h => h
  | fuel + 1, _, _, _, h => ⟨h.1, fun i hi => wpOp_mono (fun a' w' h' => wpAny_of_T fuel _ a' w' h'.2) (h.2 i hi)⟩

/-- A part of a tuple: it hangs on no world, so it may come up behind the last one. -/
def loose (ops : Array Oper) (i : Nat) : Bool := match ops[i]? with
  | some o => (match o.op with | .extract .. => true | _ => false)
  | none => false
/-- Each operation that has not come up, but the last one and parts of tuples, is waited for by a later one that has not come up. -/
def Sink (ops : Array Oper) (last : Nat) (listed : Array Bool) : Prop :=
  ∀ i, i ≠ last → loose ops i = false → listed.getD i true = false → ∃ j oj, i < j ∧ (j = last ∨ loose ops j = false) ∧ listed.getD j true = false ∧ ops[j]? = some oj ∧ ∃ e ∈ oj.after, Region.binds .any e = true ∧ e.on = i
def sinkB (ops : Array Oper) (last : Nat) (listed : Array Bool) : Bool :=
  (List.range listed.size).all fun i => i == last || loose ops i || listed.getD i true || (List.range listed.size).any fun j => decide (i < j) && (j == last || !loose ops j) && !listed.getD j true && (match ops[j]? with | some oj => oj.after.any fun e => Region.binds .any e && e.on == i | none => false)
theorem lt_of_unlisted {listed : Array Bool} {i : Nat} (h : listed.getD i true = false) : i < listed.size := by
  rcases Nat.lt_or_ge i listed.size with h' | h'
  · exact h'
  · simp [Array.getElem?_eq_none h'] at h
theorem sink_of {listed : Array Bool} (h : sinkB ops last listed = true) : Sink ops last listed := fun i hi hlo hu => by
  unfold sinkB at h
  rw [List.all_eq_true] at h
  have h1 := h i (List.mem_range.2 (lt_of_unlisted hu))
  simp only [hu, hlo, Bool.or_false, Bool.or_eq_true, beq_iff_eq] at h1
  rcases h1 with h1 | h1
  · exact absurd h1 hi
  · obtain ⟨j, hj, h2⟩ := List.any_eq_true.1 h1
    simp only [Bool.and_eq_true, Bool.or_eq_true, beq_iff_eq, decide_eq_true_eq, Bool.not_eq_true'] at h2
    obtain ⟨⟨⟨h3, h3'⟩, h4⟩, h5⟩ := h2
    cases ho : ops[j]? with
    | none => rw [ho] at h5; simp at h5
    | some oj =>
      rw [ho] at h5
      obtain ⟨e, he, hb⟩ := Array.any_eq_true'.1 h5
      simp only [Bool.and_eq_true, beq_iff_eq] at hb
      exact ⟨j, oj, h3, h3', h4, ho, e, he, hb.1, hb.2⟩
theorem unready {listed : Array Bool} {i j : Nat} {oj : Oper} (hi : listed.getD i true = false) (ho : ops[j]? = some oj) {e} (he : e ∈ oj.after) (hb : Region.binds .any e = true) (hon : e.on = i) : j ∉ Region.ready .any ops listed := fun hj => by
  obtain ⟨_, o, ho', hall⟩ := mem_ready.1 hj
  have : o = oj := Option.some.inj (ho'.symm.trans ho)
  subst this
  have h1 := hall e he hb
  rw [hon] at h1
  have hlt := lt_of_unlisted hi
  simp [hlt] at hi h1
  rw [hi] at h1; cases h1
theorem Sink.set {listed : Array Bool} {r : Nat} (h : Sink ops last listed) (hr : r ∈ Region.ready .any ops listed) : Sink ops last (listed.setIfInBounds r true) := fun i hi hlo hu => by
  have hir : r ≠ i := fun e => by
    subst e
    have hlt := lt_of_unlisted (mem_ready.1 hr).1
    simp [hlt] at hu
  rw [getD_set_ne true hir] at hu
  obtain ⟨j, oj, h1, h1', h2, h3, e, he, hb, hon⟩ := h i hi hlo hu
  have hrj : r ≠ j := fun e' => by subst e'; exact unready hu h3 he hb hon hr
  exact ⟨j, oj, h1, h1', by rw [getD_set_ne true hrj]; exact h2, h3, e, he, hb, hon⟩
theorem Sink.late {listed : Array Bool} (h : Sink ops last listed) : ∀ (n i : Nat), listed.size - i ≤ n → i ≠ last → loose ops i = false → listed.getD i true = false → last ∉ Region.ready .any ops listed
  | 0, i, hn, hi, _, hu => by have := lt_of_unlisted hu; omega
  | n + 1, i, hn, hi, hlo, hu => by
    obtain ⟨j, oj, h1, h1', h2, h3, e, he, hb, hon⟩ := h i hi hlo hu
    by_cases hj : j = last
    · subst hj; exact unready hu h3 he hb hon
    · exact Sink.late h n j (by have := lt_of_unlisted hu; omega) hj (h1'.resolve_left hj) h2

theorem getD_set_self (listed : Array Bool) (i : Nat) : (listed.setIfInBounds i true).getD i true = true := by
  rcases Nat.lt_or_ge i listed.size with h | h
  · simp [h]
  · simp [Array.getElem?_eq_none (show (listed.setIfInBounds i true).size ≤ i by simpa using h)]

theorem wpAnyT_first {i : Nat} {oi : Oper} {v : Value} (hi : ops[i]? = some oi) (hil : i ≠ last) (hlo : loose ops i = false) (hsel : ∀ (j : Nat) (o : Oper) cs b, ops[j]? = some o → o.op ≠ .select cs b)
    (hQ : ∀ c a w, Q (.panic c) (a.put oi.dst v) w → Q (.panic c) a w) :
    ∀ (fuel : Nat) (listed : Array Bool) (a : Act) (w : World),
      (∀ j oj, ops[j]? = some oj → j ≠ i → listed.getD j true = false → (∀ e ∈ oj.after, Region.binds .any e = true → e.on ≠ i) → oi.apart ops oj = true) → Sink ops last listed → listed.getD last true = false →
      i ∈ Region.ready .any ops listed → YieldsIf P ops C oi v a → C w →
      wpAnyT P ops Q C last fuel (listed.setIfInBounds i true) (a.put oi.dst v) w → wpAnyT P ops Q C last (fuel + 1) listed a w := by
  intro fuel
  induction fuel with
  | zero =>
    intro listed a w _ _ _ hr hy hS H
    refine ⟨fun h => (by rw [h] at hr; cases hr), fun j hj => ?_⟩
    by_cases hji : j = i
    · subst hji; exact hy.wpOp hi hS ⟨fun _ => hS, H⟩
    · have := ready_mono hj hji
      rw [H.1] at this
      cases this
  | succ fuel ih =>
    intro listed a w hfree hsink hlu hr hy hS H
    refine ⟨fun h => (by rw [h] at hr; cases hr), fun j hj => ?_⟩
    by_cases hji : j = i
    · subst hji; exact hy.wpOp hi hS ⟨fun _ => hS, H⟩
    · have hjl : j ≠ last := fun e => by
        subst e
        exact hsink.late listed.size i (by omega) hil hlo (mem_ready.1 hr).1 hj
      have h1 := H.2 j (ready_mono hj hji)
      obtain ⟨hjun, oj, hoj, hall⟩ := mem_ready.1 hj
      have hnot : ∀ e ∈ oj.after, Region.binds .any e = true → e.on ≠ i := fun e he hb heq => unready (mem_ready.1 hr).1 hoj he hb heq hj
      have h2 := wpOp_putIf hoj (hfree j oj hoj hji hjun hnot) (fun cs b => hsel i oi cs b hi) (fun cs b => hsel j oj cs b hoj) hQ hy h1
      have hfree' : ∀ k ok, ops[k]? = some ok → k ≠ i → (listed.setIfInBounds j true).getD k true = false →
          (∀ e ∈ ok.after, Region.binds .any e = true → e.on ≠ i) → oi.apart ops ok = true := fun k ok hk hki hun hno => by
        refine hfree k ok hk hki ?_ hno
        by_cases hjk : j = k
        · subst hjk; exact hjun
        · rw [getD_set_ne true hjk] at hun; exact hun
      have hlu2 : (listed.setIfInBounds j true).getD last true = false := by rw [getD_set_ne true hjl]; exact hlu
      have hlu3 : ((listed.setIfInBounds i true).setIfInBounds j true).getD last true = false := by rw [getD_set_ne true hjl, getD_set_ne true hil]; exact hlu
      refine wpOp_mono (fun a' w' h3 => ⟨fun _ => h3.2.1 hlu3, ih (listed.setIfInBounds j true) a' w' hfree' (hsink.set hj) hlu2 (ready_mono hr (Ne.symm hji)) h3.1 (h3.2.1 hlu3) ?_⟩) h2
      rw [Array.setIfInBounds_comm _ _ hji]
      exact h3.2.2

/-- What hangs on no world may be taken first, whatever else is left. -/
theorem wpAnyT_pure {i : Nat} {oi : Oper} {v : Value} (hi : ops[i]? = some oi) (hil : i ≠ last) (hsel : ∀ (j : Nat) (o : Oper) cs b, ops[j]? = some o → o.op ≠ .select cs b)
    (hQ : ∀ c a w, Q (.panic c) (a.put oi.dst v) w → Q (.panic c) a w) :
    ∀ (fuel : Nat) (listed : Array Bool) (a : Act) (w : World),
      (∀ j oj, ops[j]? = some oj → j ≠ i → listed.getD j true = false → (∀ e ∈ oj.after, Region.binds .any e = true → e.on ≠ i) → oi.apart ops oj = true) →
      i ∈ Region.ready .any ops listed → YieldsIf P ops (fun _ => True) oi v a → (listed.getD last true = false → C w) →
      wpAnyT P ops Q C last fuel (listed.setIfInBounds i true) (a.put oi.dst v) w → wpAnyT P ops Q C last (fuel + 1) listed a w := by
  intro fuel
  induction fuel with
  | zero =>
    intro listed a w _ hr hy hS H
    refine ⟨fun h => (by rw [h] at hr; cases hr), fun j hj => ?_⟩
    by_cases hji : j = i
    · subst hji; exact hy.wpOp hi trivial ⟨fun h => hS (by rwa [getD_set_ne true hil] at h), H⟩
    · have := ready_mono hj hji
      rw [H.1] at this
      cases this
  | succ fuel ih =>
    intro listed a w hfree hr hy hS H
    refine ⟨fun h => (by rw [h] at hr; cases hr), fun j hj => ?_⟩
    by_cases hji : j = i
    · subst hji; exact hy.wpOp hi trivial ⟨fun h => hS (by rwa [getD_set_ne true hil] at h), H⟩
    · have h1 := H.2 j (ready_mono hj hji)
      obtain ⟨hjun, oj, hoj, hall⟩ := mem_ready.1 hj
      have hnot : ∀ e ∈ oj.after, Region.binds .any e = true → e.on ≠ i := fun e he hb heq => unready (mem_ready.1 hr).1 hoj he hb heq hj
      have h2 := wpOp_putIf hoj (hfree j oj hoj hji hjun hnot) (fun cs b => hsel i oi cs b hi) (fun cs b => hsel j oj cs b hoj) hQ hy h1
      have hfree' : ∀ k ok, ops[k]? = some ok → k ≠ i → (listed.setIfInBounds j true).getD k true = false →
          (∀ e ∈ ok.after, Region.binds .any e = true → e.on ≠ i) → oi.apart ops ok = true := fun k ok hk hki hun hno => by
        refine hfree k ok hk hki ?_ hno
        by_cases hjk : j = k
        · subst hjk; exact hjun
        · rw [getD_set_ne true hjk] at hun; exact hun
      have hsame : ((listed.setIfInBounds i true).setIfInBounds j true).getD last true = (listed.setIfInBounds j true).getD last true := by
        rw [Array.setIfInBounds_comm _ _ (Ne.symm hji), getD_set_ne true hil]
      refine wpOp_mono (fun a' w' h3 => ⟨fun h => h3.2.1 (hsame.trans h), ih (listed.setIfInBounds j true) a' w' hfree' (ready_mono hr (Ne.symm hji)) h3.1 (fun h => h3.2.1 (hsame.trans h)) ?_⟩) h2
      rw [Array.setIfInBounds_comm _ _ hji]
      exact h3.2.2

theorem wpAnyT_take {i : Nat} {oi : Oper} {v : Value} {fuel : Nat} {listed : Array Bool} {a : Act} {w : World} (hi : ops[i]? = some oi) (hil : i ≠ last) (hlo : loose ops i = false) (hsink : Sink ops last listed) (hlu : listed.getD last true = false)
    (hs : Region.noSelect ops = true) (hf : Region.free .any ops listed i = true) (hr : (Region.ready .any ops listed).contains i = true)
    (hQ : ∀ c a w, Q (.panic c) (a.put oi.dst v) w → Q (.panic c) a w) (hy : YieldsIf P ops C oi v a) (hS : C w)
    (h : wpAnyT P ops Q C last fuel (listed.setIfInBounds i true) (a.put oi.dst v) w) : wpAnyT P ops Q C last (fuel + 1) listed a w :=
  wpAnyT_first hi hil hlo (Region.noSelect_spec hs) hQ fuel listed a w (Region.free_spec hi hf) hsink hlu (by simpa using hr) hy hS h
theorem wpAnyT_loose {i : Nat} {oi : Oper} {v : Value} {fuel : Nat} {listed : Array Bool} {a : Act} {w : World} (hi : ops[i]? = some oi) (hil : i ≠ last)
    (hs : Region.noSelect ops = true) (hf : Region.free .any ops listed i = true) (hr : (Region.ready .any ops listed).contains i = true)
    (hQ : ∀ c a w, Q (.panic c) (a.put oi.dst v) w → Q (.panic c) a w) (hy : YieldsIf P ops (fun _ => True) oi v a) (hS : C w)
    (h : wpAnyT P ops Q C last fuel (listed.setIfInBounds i true) (a.put oi.dst v) w) : wpAnyT P ops Q C last (fuel + 1) listed a w :=
  wpAnyT_pure hi hil (Region.noSelect_spec hs) hQ fuel listed a w (Region.free_spec hi hf) (by simpa using hr) hy (fun _ => hS) h

theorem extract_any {o : Oper} {ρ : Operand → Value} {w : World} {v : Value} {x : Operand} {k : Nat} (ho : o.op = .extract x k) (h : (execOp ρ o).run P w = .ok (.value v) w) : ∀ w', (execOp ρ o).run P w' = .ok (.value v) w' := fun w' => by
  obtain ⟨dst, op, type, pos, after, guard⟩ := o
  simp only at ho
  subst ho
  simp only [execOp, Instr.extract] at h ⊢
  cases hx : ρ x <;> simp only [hx] at h ⊢
  case tuple vs =>
    cases hv : vs[k]? <;> simp only [hv] at h ⊢
    · simp [go_sem, Result.andThen, stuck] at h
    · simp only [Sem.run_bind, Sem.run_pure, Result.andThen] at h ⊢
      cases h; rfl
  all_goals simp [go_sem, Result.andThen, stuck] at h

theorem wpAnyT_all {rs : List Nat} {fuel : Nat} {listed : Array Bool} {a : Act} {w : World} (hr : Region.ready .any ops listed = rs) (hne : rs ≠ [])
    (h : ∀ i ∈ rs, wpOp P ops Q i (fun a' w' => ((listed.setIfInBounds i true).getD last true = false → C w') ∧ wpAnyT P ops Q C last fuel (listed.setIfInBounds i true) a' w') a w) : wpAnyT P ops Q C last (fuel + 1) listed a w :=
  ⟨fun h0 => absurd (hr ▸ h0) hne, hr ▸ h⟩
theorem wpAnyT_done {listed : Array Bool} {a : Act} {w : World} (hr : Region.ready .any ops listed = []) (h : Q .normal a w) : ∀ fuel, wpAnyT P ops Q C last fuel listed a w
  | 0 => ⟨hr, h⟩
  | _ + 1 => ⟨fun _ => h, by rw [hr]; simp⟩
theorem wpAnyT_strong {C' : World → Prop} (h : ∀ w, C' w → C w) : ∀ (n : Nat) (listed : Array Bool) (a : Act) (w : World), wpAnyT P ops Q C' last n listed a w → wpAnyT P ops Q C last n listed a w
  | 0, _, _, _, hh => hh
  | n + 1, _, _, _, hh => ⟨hh.1, fun i hi => wpOp_mono (fun a' w' ⟨h1, h2⟩ => ⟨fun hl => h _ (h1 hl), wpAnyT_strong h n _ a' w' h2⟩) (hh.2 i hi)⟩

/-- These operations may come up one behind the other, each plain, none the last one. -/
def takesT (ops : Array Oper) (last : Nat) : List Nat → Array Bool → Bool
  | [], _ => true
  | i :: is, listed => (Region.ready .any ops listed).contains i && Region.free .any ops listed i && (loose ops i || (sinkB ops last listed && !listed.getD last true)) && !(i == last) && ((ops[i]?).map fun o => plainOp o.op).getD false && takesT ops last is (listed.setIfInBounds i true)

theorem growT_take (hs : Region.noSelect ops = true) : ∀ (is : List Nat) (n : Nat) (listed : Array Bool) (a : Act), takesT ops last is listed = true →
    wpQuiet P ops C (fun a' => ∀ w, C w → wpAnyT P ops (NoPanic Q) C last n (marks is listed) a' w) (opsAt ops is) a → ∀ w, C w → wpAnyT P ops (NoPanic Q) C last (n + is.length) listed a w
  | [], n, listed, a, _, h, w, hw => h w hw
  | i :: is, n, listed, a, hB, h, w, hw => by
    simp only [takesT, Bool.and_eq_true, Bool.or_eq_true, Bool.not_eq_true', beq_eq_false_iff_ne] at hB
    obtain ⟨⟨⟨⟨⟨hr, hf⟩, hk⟩, hil⟩, hp⟩, hB'⟩ := hB
    cases ho : ops[i]? with
    | none => rw [ho] at hp; simp at hp
    | some o =>
      rw [ho] at hp
      have hp' : plainOp o.op = true := by simpa using hp
      simp only [opsAt, ho, wpQuiet] at h
      have key : ∃ v, YieldsIf P ops C o v a ∧ wpQuiet P ops C (fun a' => ∀ w, C w → wpAnyT P ops (NoPanic Q) C last n (marks is (listed.setIfInBounds i true)) a' w) (opsAt ops is) (a.put o.dst v) := by
        by_cases hwt : Region.wanted o (yielded ops a.tmps) = true
        · rw [if_pos hwt] at h
          obtain ⟨v, h1, h2⟩ := h
          exact ⟨v, yieldsIf_of_quiet hp' hwt h1, h2⟩
        · rw [if_neg hwt] at h
          exact ⟨undef, .inr ⟨by simpa using hwt, rfl⟩, h⟩
      obtain ⟨v, hy, hq⟩ := key
      have rest := growT_take hs is n (listed.setIfInBounds i true) (a.put o.dst v) hB' hq w hw
      cases hlo : loose ops i with
      | false =>
        rw [hlo] at hk
        obtain ⟨hk1, hk2⟩ := hk.resolve_left (by simp)
        exact wpAnyT_take ho hil hlo (sink_of hk1) hk2 hs hf hr (fun _ _ _ h => h) hy hw rest
      | true =>
        refine wpAnyT_loose ho hil hs hf hr (fun _ _ _ h => h) ?_ hw rest
        unfold loose at hlo
        rw [ho] at hlo
        obtain ⟨x, k, hop⟩ : ∃ x k, o.op = .extract x k := by
          cases hop : o.op <;> simp only [hop, Bool.false_eq_true] at hlo
          exact ⟨_, _, rfl⟩
        exact hy.imp (fun ⟨h1, h2⟩ => ⟨h1, fun w' _ => extract_any hop (h2 w hw) w'⟩) id

/-- The beginning. -/
theorem growT_begin (last : Nat) {id : Nat} {a : Act} {w : World} {l : List Oper} (hm : P.follows .mixedOrders = true)
    (h : ∀ w', (∃ p : Regrown, w' = grow (redrawn w p.d) p.os) → wpAnyT P l.toArray (NoPanic Q) (fun w' => ∃ p : Regrown, w' = grow (redrawn w p.d) p.os) last l.length (Array.replicate l.length false) a w') : (Code.region id l.toArray true).wp P Q a w := by
  refine wp_region_noPanic (wp_region_any hm (wpAny_of_T (C := fun w' => ∃ p : Regrown, w' = grow (redrawn w p.d) p.os) (last := last) _ _ _ _ ?_))
  have := h w.drew (regrown_of_below ((Below.refl _ _).drew))
  rw [List.size_toArray]
  exact this

/-- Whichever of those that may come up comes up, none of them the last one. -/
theorem growT_all (rs : List Nat) {n : Nat} {listed : Array Bool} {a : Act} {w0 w : World} (hr : Region.ready .any ops listed = rs) (hne : rs ≠ []) (hw : ∃ p : Regrown, w = grow (redrawn w0 p.d) p.os)
    (h : ∀ i ∈ rs, ∀ K : Act → World → Prop, Shut (∀ a' w1, Below w.heap.size w w1 → (∀ w', (∃ p : Regrown, w' = grow (redrawn w1 p.d) p.os) → wpAnyT P ops (NoPanic Q) (fun w' => ∃ p : Regrown, w' = grow (redrawn w1 p.d) p.os) last n (listed.setIfInBounds i true) a' w') → K a' w1) →
      stepOf P ops (NoPanic Q) K a w ops[i]?) : wpAnyT P ops (NoPanic Q) (fun w' => ∃ p : Regrown, w' = grow (redrawn w0 p.d) p.os) last (n + 1) listed a w := by
  refine wpAnyT_all hr hne fun j hj => ?_
  have hb0 := below_of_up hw
  have hs := h j hj (fun a' w' => ((listed.setIfInBounds j true).getD last true = false → ∃ p : Regrown, w' = grow (redrawn w0 p.d) p.os) ∧ wpAnyT P ops (NoPanic Q) (fun w' => ∃ p : Regrown, w' = grow (redrawn w0 p.d) p.os) last n (listed.setIfInBounds j true) a' w') (fun a' w1 hb hh => by
    have hb1 : Below w0.heap.size w0 w1 := hb0.trans (hb.mono hb0.size)
    exact ⟨fun _ => regrown_of_below hb1, wpAnyT_strong (fun w' hw' => regrown_of_below (hb1.trans ((below_of_up hw').mono hb1.size))) _ _ _ _ (hh w1 (regrown_of_below (Below.refl _ _)))⟩)
  unfold wpOp
  cases ho : ops[j]? with
  | none => rw [ho] at hs; exact hs.elim
  | some o =>
    rw [ho] at hs
    simp only [stepOf] at hs
    show if Region.wanted o (yielded ops a.tmps) = true then _ else _
    by_cases hwt : Region.wanted o (yielded ops a.tmps) = true
    · rw [if_pos hwt] at hs ⊢; exact .inl hs
    · rw [if_neg hwt] at hs ⊢; exact hs
theorem growT_one (i : Nat) {n : Nat} {listed : Array Bool} {a : Act} {w0 w : World} (hr : Region.ready .any ops listed = [i]) (hw : ∃ p : Regrown, w = grow (redrawn w0 p.d) p.os)
    (h : ∀ K : Act → World → Prop, Shut (∀ a' w1, Below w.heap.size w w1 → (∀ w', (∃ p : Regrown, w' = grow (redrawn w1 p.d) p.os) → wpAnyT P ops (NoPanic Q) (fun w' => ∃ p : Regrown, w' = grow (redrawn w1 p.d) p.os) last n (listed.setIfInBounds i true) a' w') → K a' w1) →
      stepOf P ops (NoPanic Q) K a w ops[i]?) : wpAnyT P ops (NoPanic Q) (fun w' => ∃ p : Regrown, w' = grow (redrawn w0 p.d) p.os) last (n + 1) listed a w :=
  growT_all [i] hr (by simp) hw fun j hj => by
    obtain rfl : j = i := by simpa using hj
    exact h
/-- The last one: it may write whatever it likes. -/
theorem growT_last {n : Nat} {listed : Array Bool} {a : Act} {w0 w : World} (hr : Region.ready .any ops listed = [last]) (hd : Region.ready .any ops (listed.setIfInBounds last true) = [])
    (h : ∀ K : Act → World → Prop, Shut (∀ a' w1, Q .normal a' w1 → K a' w1) → stepOf P ops (NoPanic Q) K a w ops[last]?) : wpAnyT P ops (NoPanic Q) (fun w' => ∃ p : Regrown, w' = grow (redrawn w0 p.d) p.os) last (n + 1) listed a w := by
  refine wpAnyT_all hr (by simp) fun j hj => ?_
  obtain rfl : j = last := by simpa using hj
  have hs := h (fun a' w' => ((listed.setIfInBounds j true).getD j true = false → ∃ p : Regrown, w' = grow (redrawn w0 p.d) p.os) ∧ wpAnyT P ops (NoPanic Q) (fun w' => ∃ p : Regrown, w' = grow (redrawn w0 p.d) p.os) j n (listed.setIfInBounds j true) a' w') (fun a' w1 hq => ⟨fun e => (by rw [getD_set_self] at e; cases e), wpAnyT_done hd (NoPanic.normal hq) n⟩)
  unfold wpOp
  cases ho : ops[j]? with
  | none => rw [ho] at hs; exact hs.elim
  | some o =>
    rw [ho] at hs
    simp only [stepOf] at hs
    show if Region.wanted o (yielded ops a.tmps) = true then _ else _
    by_cases hwt : Region.wanted o (yielded ops a.tmps) = true
    · rw [if_pos hwt] at hs ⊢; exact .inl hs
    · rw [if_neg hwt] at hs ⊢; exact hs
end
end Go.Proofs.YtcopjbapglndgaaGreatDoor
end

section
namespace Go.Proofs.YtcopjbapglndgaaGreatDoor
open Go.RowKit Go.Sort
set_option linter.unusedVariables false

section
variable {P : Program} {ops : Array Oper} {Q : Exit → Act → World → Prop} {C : World → Prop} {last : Nat}

theorem growK_begin (last : Nat) (C : World → Prop) {id : Nat} {a : Act} {w : World} {l : List Oper} (hm : P.follows .mixedOrders = true)
    (h : wpAnyT P l.toArray (NoPanic Q) C last l.length (Array.replicate l.length false) a w.drew) : (Code.region id l.toArray true).wp P Q a w := by
  refine wp_region_noPanic (wp_region_any hm (wpAny_of_T (C := C) (last := last) _ _ _ _ ?_))
  rw [List.size_toArray]
  exact h
theorem growK_take (hs : Region.noSelect ops = true) : ∀ (is : List Nat) (n : Nat) (listed : Array Bool) (a : Act), takesT ops last is listed = true → ∀ w, C w →
    wpQuiet P ops C (fun a' => wpAnyT P ops (NoPanic Q) C last n (marks is listed) a' w) (opsAt ops is) a → wpAnyT P ops (NoPanic Q) C last (n + is.length) listed a w
  | [], n, listed, a, _, w, hw, h => h
  | i :: is, n, listed, a, hB, w, hw, h => by
    simp only [takesT, Bool.and_eq_true, Bool.or_eq_true, Bool.not_eq_true', beq_eq_false_iff_ne] at hB
    obtain ⟨⟨⟨⟨⟨hr, hf⟩, hk⟩, hil⟩, hp⟩, hB'⟩ := hB
    cases ho : ops[i]? with
    | none => rw [ho] at hp; simp at hp
    | some o =>
      rw [ho] at hp
      have hp' : plainOp o.op = true := by simpa using hp
      simp only [opsAt, ho, wpQuiet] at h
      have key : ∃ v, YieldsIf P ops C o v a ∧ wpQuiet P ops C (fun a' => wpAnyT P ops (NoPanic Q) C last n (marks is (listed.setIfInBounds i true)) a' w) (opsAt ops is) (a.put o.dst v) := by
        by_cases hwt : Region.wanted o (yielded ops a.tmps) = true
        · rw [if_pos hwt] at h
          obtain ⟨v, h1, h2⟩ := h
          exact ⟨v, yieldsIf_of_quiet hp' hwt h1, h2⟩
        · rw [if_neg hwt] at h
          exact ⟨undef, .inr ⟨by simpa using hwt, rfl⟩, h⟩
      obtain ⟨v, hy, hq⟩ := key
      have rest := growK_take hs is n (listed.setIfInBounds i true) (a.put o.dst v) hB' w hw hq
      cases hlo : loose ops i with
      | false =>
        rw [hlo] at hk
        obtain ⟨hk1, hk2⟩ := hk.resolve_left (by simp)
        exact wpAnyT_take ho hil hlo (sink_of hk1) hk2 hs hf hr (fun _ _ _ h => h) hy hw rest
      | true =>
        refine wpAnyT_loose ho hil hs hf hr (fun _ _ _ h => h) ?_ hw rest
        unfold loose at hlo
        rw [ho] at hlo
        obtain ⟨x, k, hop⟩ : ∃ x k, o.op = .extract x k := by
          cases hop : o.op <;> simp only [hop, Bool.false_eq_true] at hlo
          exact ⟨_, _, rfl⟩
        exact hy.imp (fun ⟨h1, h2⟩ => ⟨h1, fun w' _ => extract_any hop (h2 w hw) w'⟩) id
theorem growK_one (i : Nat) {n : Nat} {listed : Array Bool} {a : Act} {w : World} (hr : Region.ready .any ops listed = [i])
    (h : ∀ K : Act → World → Prop, Shut (∀ a' w1, C w1 → wpAnyT P ops (NoPanic Q) C last n (listed.setIfInBounds i true) a' w1 → K a' w1) →
      stepOf P ops (NoPanic Q) K a w ops[i]?) : wpAnyT P ops (NoPanic Q) C last (n + 1) listed a w := by
  refine wpAnyT_all hr (by simp) fun j hj => ?_
  obtain rfl : j = i := by simpa using hj
  have hs := h (fun a' w' => ((listed.setIfInBounds j true).getD last true = false → C w') ∧ wpAnyT P ops (NoPanic Q) C last n (listed.setIfInBounds j true) a' w') (fun a' w1 h1 h2 => ⟨fun _ => h1, h2⟩)
  unfold wpOp
  cases ho : ops[j]? with
  | none => rw [ho] at hs; exact hs.elim
  | some o =>
    rw [ho] at hs
    simp only [stepOf] at hs
    show if Region.wanted o (yielded ops a.tmps) = true then _ else _
    by_cases hwt : Region.wanted o (yielded ops a.tmps) = true
    · rw [if_pos hwt] at hs ⊢; exact .inl hs
    · rw [if_neg hwt] at hs ⊢; exact hs
theorem growK_last {n : Nat} {listed : Array Bool} {a : Act} {w : World} (hr : Region.ready .any ops listed = [last]) (hd : Region.ready .any ops (listed.setIfInBounds last true) = [])
    (h : ∀ K : Act → World → Prop, Shut (∀ a' w1, Q .normal a' w1 → K a' w1) → stepOf P ops (NoPanic Q) K a w ops[last]?) : wpAnyT P ops (NoPanic Q) C last (n + 1) listed a w := by
  refine wpAnyT_all hr (by simp) fun j hj => ?_
  obtain rfl : j = last := by simpa using hj
  have hs := h (fun a' w' => ((listed.setIfInBounds j true).getD j true = false → C w') ∧ wpAnyT P ops (NoPanic Q) C j n (listed.setIfInBounds j true) a' w') (fun a' w1 hq => ⟨fun e => (by rw [getD_set_self] at e; cases e), wpAnyT_done hd (NoPanic.normal hq) n⟩)
  unfold wpOp
  cases ho : ops[j]? with
  | none => rw [ho] at hs; exact hs.elim
  | some o =>
    rw [ho] at hs
    simp only [stepOf] at hs
    show if Region.wanted o (yielded ops a.tmps) = true then _ else _
    by_cases hwt : Region.wanted o (yielded ops a.tmps) = true
    · rw [if_pos hwt] at hs ⊢; exact .inl hs
    · rw [if_neg hwt] at hs ⊢; exact hs
end
end Go.Proofs.YtcopjbapglndgaaGreatDoor
end
