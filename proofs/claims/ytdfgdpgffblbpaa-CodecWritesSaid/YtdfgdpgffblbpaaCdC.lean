/-
  What package codec answers, told.
-/
import Derived.Test.YtdfgdpgffblbpaaCdI
import Derived.Test.YtdfgdpgffblbpaaCdM
namespace Go.Proofs.Ytdfgdpgffblbpaa
open Go.ChangeShapes Go.WideShapes Go.ChangeAt Go.RowKit Go.Joins
set_option linter.unusedVariables false

/-- The cells of a codec.Out's zero value. -/
def outZ : Array Value := #[.pointer none, .bool false]
def i64R (z : Int) : Prop := -9223372036854775808 ≤ z ∧ z ≤ 9223372036854775807
/-- Od X w b s q: block b is an Out that has got the bytes s (none: it is spoilt), at most q bytes were put, all of it lies in blocks that X names. -/
def OutPost (Od : (Nat → Prop) → World → Nat → Option (List Nat) → Nat → Prop) (X : Nat → Prop) (w : World) (b : Nat) (s : Option (List Nat)) (q : Nat) (e : Ending) (w' : World) : Prop :=
  e = .returned (.tuple #[]) ∧ ∃ X', Od X' w' b s q ∧ (∀ k, X' k → X k ∨ w.heap.size ≤ k) ∧ Fr X w w'
structure OutC (Od : (Nat → Prop) → World → Nat → Option (List Nat) → Nat → Prop) : Prop where
  zero : ∀ w : World, Od (fun k => k = w.heap.size) (w.alloc (.cells outZ 27)) w.heap.size (some []) 0
  keep : ∀ {X Y : Nat → Prop} {w w' : World} {b : Nat} {s : Option (List Nat)} {q : Nat}, Od X w b s q → Fr Y w w' → (∀ k, X k → ¬ Y k) → Od X w' b s q
  lt : ∀ {X : Nat → Prop} {w : World} {b : Nat} {s : Option (List Nat)} {q : Nat}, Od X w b s q → ∀ k, X k → k < w.heap.size
  mono : ∀ {X : Nat → Prop} {w : World} {b : Nat} {s : Option (List Nat)} {q q' : Nat}, Od X w b s q → q ≤ q' → Od X w b s q'
  n : ∀ (X : Nat → Prop) (w : World) (b : Nat) (s : Option (List Nat)) (q : Nat) (v n : Int), Od X w b s q → q ≤ 40000 → i64R v → i64R n →
    Calls Try.prog 8 #[.pointer (some ⟨b, 0, none⟩), .int .i64 v, .int .i64 n] w (OutPost Od X w b (addO s (putN v n)) (q + 6))
  text : ∀ (X : Nat → Prop) (w : World) (b : Nat) (s : Option (List Nat)) (q : Nat) (l : List Nat), Od X w b s q → q ≤ 40000 → IsByte l → l.length ≤ 20000 →
    Calls Try.prog 10 #[.pointer (some ⟨b, 0, none⟩), .string (strOf l)] w (OutPost Od X w b (addO s (putT l)) (q + l.length + 6))
  raw : ∀ (X : Nat → Prop) (w : World) (b : Nat) (s : Option (List Nat)) (q : Nat) (a : Option Addr) (c : Nat) (l : List Nat), Od X w b s q → q ≤ 40000 → Sl w a c l → l.length ≤ 20000 →
    Calls Try.prog 11 #[.pointer (some ⟨b, 0, none⟩), .slice a l.length c] w (OutPost Od X w b (addO s (some l)) (q + l.length))
  endOk : ∀ (X : Nat → Prop) (w : World) (b : Nat) (l : List Nat) (q : Nat), Od X w b (some l) q → q ≤ 40000 →
    Calls Try.prog 12 #[.pointer (some ⟨b, 0, none⟩)] w fun e w' => ∃ a c, e = .returned (.tuple #[.slice a l.length c, .int .i64 0]) ∧ Sl w' a c l ∧ Below w.heap.size w w'
  endBad : ∀ (X : Nat → Prop) (w : World) (b : Nat) (q : Nat), Od X w b none q → q ≤ 40000 →
    Calls Try.prog 12 #[.pointer (some ⟨b, 0, none⟩)] w fun e w' => ∃ a c, e = .returned (.tuple #[.slice a 0 c, .int .i64 1]) ∧ Below w.heap.size w w'
  nilN : ∀ (w : World) (v n : Int), i64R v → i64R n → Calls Try.prog 8 #[.pointer none, .int .i64 v, .int .i64 n] w fun e w' => e = .returned (.tuple #[]) ∧ Below w.heap.size w w'
  nilText : ∀ (w : World), Calls Try.prog 10 #[.pointer none, .string (strOf [97])] w fun e w' => e = .returned (.tuple #[]) ∧ Below w.heap.size w w'
  nilRaw : ∀ (w : World) (a : Option Addr) (c : Nat), Sl w a c [98] → Calls Try.prog 11 #[.pointer none, .slice a 1 c] w fun e w' => e = .returned (.tuple #[]) ∧ Below w.heap.size w w'
  nilEnd : ∀ (w : World), Calls Try.prog 12 #[.pointer none] w fun e w' => ∃ a c, e = .returned (.tuple #[.slice a 0 c, .int .i64 1]) ∧ Below w.heap.size w w'

/-- Id B X w b s: block b is an In that has these bytes left (none: it is bad), all of it that is written lies in blocks that X names, its bytes below B or in X's. -/
def InPost (Id : Nat → (Nat → Prop) → World → Nat → Option (List Nat) → Prop) (B : Nat) (X : Nat → Prop) (w : World) (b : Nat) (s : Option (List Nat)) (w' : World) : Prop :=
  ∃ X', Id B X' w' b s ∧ (∀ k, X' k → X k ∨ w.heap.size ≤ k) ∧ Fr X w w'
structure InC (Id : Nat → (Nat → Prop) → World → Nat → Option (List Nat) → Prop) : Prop where
  keep : ∀ {B : Nat} {X Y : Nat → Prop} {w w' : World} {b : Nat} {s : Option (List Nat)}, Id B X w b s → Fr Y w w' → (∀ k, k < B → ¬ Y k) → (∀ k, X k → ¬ Y k) → Id B X w' b s
  lt : ∀ {B : Nat} {X : Nat → Prop} {w : World} {b : Nat} {s : Option (List Nat)}, Id B X w b s → ∀ k, X k → B ≤ k ∧ k < w.heap.size
  new : ∀ (w : World) (a : Option Addr) (c : Nat) (l : List Nat), Sl w a c l → l.length ≤ 60000 →
    Calls Try.prog 13 #[.slice a l.length c] w fun e w' => ∃ b X, e = .returned (.pointer (some ⟨b, 0, none⟩)) ∧ Id w.heap.size X w' b (some l) ∧ Below w.heap.size w w'
  n : ∀ (B : Nat) (X : Nat → Prop) (w : World) (b : Nat) (s : Option (List Nat)) (n : Int), Id B X w b s → i64R n →
    Calls Try.prog 14 #[.pointer (some ⟨b, 0, none⟩), .int .i64 n] w fun e w' => e = .returned (.int .i64 (ansN s n : Int)) ∧ InPost Id B X w b (restN s n) w'
  text : ∀ (B : Nat) (X : Nat → Prop) (w : World) (b : Nat) (s : Option (List Nat)), Id B X w b s →
    Calls Try.prog 15 #[.pointer (some ⟨b, 0, none⟩)] w fun e w' => e = .returned (.string (strOf (ansT s))) ∧ InPost Id B X w b (restT s) w'
  raw : ∀ (B : Nat) (X : Nat → Prop) (w : World) (b : Nat) (s : Option (List Nat)) (n : Int), Id B X w b s → i64R n →
    Calls Try.prog 16 #[.pointer (some ⟨b, 0, none⟩), .int .i64 n] w fun e w' => (∃ a c, e = .returned (.slice a (ansR s n).length c) ∧ Sl w' a c (ansR s n)) ∧ InPost Id B X w b (restR s n) w'
  left : ∀ (B : Nat) (X : Nat → Prop) (w : World) (b : Nat) (s : Option (List Nat)), Id B X w b s →
    Calls Try.prog 20 #[.pointer (some ⟨b, 0, none⟩)] w fun e w' => e = .returned (.int .i64 (leftI s : Int)) ∧ InPost Id B X w b s w'
  bad : ∀ (B : Nat) (X : Nat → Prop) (w : World) (b : Nat) (s : Option (List Nat)), Id B X w b s →
    Calls Try.prog 18 #[.pointer (some ⟨b, 0, none⟩)] w fun e w' => e = .returned (.bool s.isNone) ∧ InPost Id B X w b s w'
  done : ∀ (B : Nat) (X : Nat → Prop) (w : World) (b : Nat) (s : Option (List Nat)), Id B X w b s →
    Calls Try.prog 17 #[.pointer (some ⟨b, 0, none⟩)] w fun e w' => e = .returned (.bool (decide (s = some []))) ∧ InPost Id B X w b s w'
  nilN : ∀ (w : World) (n : Int), i64R n → Calls Try.prog 14 #[.pointer none, .int .i64 n] w fun e w' => e = .returned (.int .i64 0) ∧ Below w.heap.size w w'
  nilText : ∀ (w : World), Calls Try.prog 15 #[.pointer none] w fun e w' => e = .returned (.string (strOf [])) ∧ Below w.heap.size w w'
  nilRaw : ∀ (w : World) (n : Int), i64R n → Calls Try.prog 16 #[.pointer none, .int .i64 n] w fun e w' => ∃ a c, e = .returned (.slice a 0 c) ∧ Below w.heap.size w w'
  nilLeft : ∀ (w : World), Calls Try.prog 20 #[.pointer none] w fun e w' => e = .returned (.int .i64 0) ∧ Below w.heap.size w w'
  nilBad : ∀ (w : World), Calls Try.prog 18 #[.pointer none] w fun e w' => e = .returned (.bool false) ∧ Below w.heap.size w w'
  nilDone : ∀ (w : World), Calls Try.prog 17 #[.pointer none] w fun e w' => e = .returned (.bool false) ∧ Below w.heap.size w w'
end Go.Proofs.Ytdfgdpgffblbpaa
