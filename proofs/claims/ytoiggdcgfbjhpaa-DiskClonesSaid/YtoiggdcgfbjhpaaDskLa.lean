/-
  awake, Few: what the laws ask ahead; lists of acts that came in.
-/
import Derived.Test.YtoiggdcgfbjhpaaDskBy
namespace Go.Proofs.Ytoiggdcgfbjhpaa
open Go.ChangeShapes Go.WideShapes Go.ChangeAt Go.RowKit Go.Joins
set_option linter.unusedVariables false

theorem sync_new (s : ByteArray) (cap : Int) : (syncS s (newSt cap)).1 = 7 := by
  have h : numD (newSt cap).Dn s = -1 := rfl
  unfold syncS
  rw [if_neg (by show ¬ (false = true); decide), if_pos h]
set_option maxRecDepth 100000 in
theorem awake_any (w : World) : Calls Try.prog 5 #[] w fun e w' => e = .returned (.bool true) ∧ Below w.heap.size w w' := by
  have e1 := new_good 9 (by decide) (by decide) w
  go_enter Try.func5, Try.ntmps5
  go_wp2_with fail
  (with_reducible refine e1.mono ?_)
  rintro e w1 ⟨rfl, r1, b1, z1⟩
  have hz := Lib.hid (And.intro b1 z1)
  have R1 := Lib.hid r1
  have hroom := room_rep r1
  rw [show wrap64 ((newSt 9).d.cap - (newSt 9).d.used) = 9 by kernel_rfl] at hroom
  clear r1 b1 z1 e1
  go_wp2_with fail
  (with_reducible refine hroom.mono ?_)
  rintro e w2 ⟨rfl, b2, z2⟩
  have R2 := R1.out.later b2
  have HB2 := Lib.hid b2
  have hsy := sync_any ⟨#[97]⟩ R2 (by decide)
  rw [sync_new] at hsy
  clear R2 b2 z2 hroom
  go_wp2_with fail
  (with_reducible refine hsy.mono ?_)
  rintro e w3 ⟨rfl, g3, r3, f3, q3⟩
  have HB3 : Hid (Below w.heap.size w w3) := by
    have h2 : Below w.heap.size w w2 := hz.out.1.trans (HB2.out.mono (by have := hz.out.2; omega))
    refine h2.trans ((f3.below (B := w.heap.size) (by have := hz.out.2; have := HB2.out.size; omega) (fun k hk e => ?_)))
    have := newFoot e
    omega
  clear r3 f3 q3 hsy
  go_wp2_with fail
  go_ret
  exact ⟨rfl, HB3.out⟩

/-! Few. -/
def ActV.size (x : ActV) : Nat := x.a.size + x.b.size + x.data.length + x.ks.length
def sizeAll (l : List ActV) : Nat := (l.map ActV.size).sum
theorem sizeAll_take (l : List ActV) (k : Nat) (h : k < l.length) : sizeAll (l.take (k + 1)) = sizeAll (l.take k) + l[k].size := by
  unfold sizeAll
  rw [List.take_succ_eq_append_getElem h, List.map_append, List.sum_append]
  simp
theorem sizeAll_take_le (l : List ActV) (k : Nat) : sizeAll (l.take k) ≤ sizeAll l := by
  unfold sizeAll
  conv => rhs; rw [← List.take_append_drop k l, List.map_append, List.sum_append]
  omega
def fewB (most : Nat) (l : List ActV) : Bool := decide (l.length ≤ most ∧ sizeAll l ≤ 100000)

/-- A list of acts that came in. -/
structure Acts (w : World) (a : Option Addr) (cap : Nat) (l : List ActV) : Prop where
  len : l.length ≤ cap
  most : cap ≤ maxLen
  ok : ∀ x ∈ l, ActOk w x
  here : l = [] ∨ ∃ b off, a = some ⟨b, off, none⟩ ∧ b < w.heap.size ∧ ∀ i (h : i < l.length), w.cell? ⟨b, off + i * 6, none⟩ = some (.int .u8 (l[i].kind : Int)) ∧ w.cell? ⟨b, off + i * 6 + 1, none⟩ = some (.string l[i].a) ∧ w.cell? ⟨b, off + i * 6 + 2, none⟩ = some (.string l[i].b) ∧
    w.cell? ⟨b, off + i * 6 + 3, none⟩ = some (.int .i64 l[i].n) ∧ w.cell? ⟨b, off + i * 6 + 4, none⟩ = some (.slice l[i].da l[i].data.length l[i].dc) ∧ w.cell? ⟨b, off + i * 6 + 5, none⟩ = some (.slice l[i].ka l[i].ks.length l[i].kc)
theorem Acts.lt {w : World} {a : Option Addr} {cap : Nat} {l : List ActV} (h : Acts w a cap l) : l.length ≤ 9223372036854775807 := by
  have h1 := h.len; have h2 := h.most; unfold maxLen at h2; omega
/-- An act's cells, in a world in which what lay before lies as it did. -/
theorem Acts.cells {W w : World} {a : Option Addr} {cap : Nat} {l : List ActV} (h : Acts W a cap l) (hb : Below W.heap.size W w) {i : Nat} (hi : i < l.length) : ∃ b off, a = some ⟨b, off, none⟩ ∧ b < W.heap.size ∧ w.cell? ⟨b, off + i * 6, none⟩ = some (.int .u8 (l[i].kind : Int)) ∧ w.cell? ⟨b, off + i * 6 + 1, none⟩ = some (.string l[i].a) ∧ w.cell? ⟨b, off + i * 6 + 2, none⟩ = some (.string l[i].b) ∧
    w.cell? ⟨b, off + i * 6 + 3, none⟩ = some (.int .i64 l[i].n) ∧ w.cell? ⟨b, off + i * 6 + 4, none⟩ = some (.slice l[i].da l[i].data.length l[i].dc) ∧ w.cell? ⟨b, off + i * 6 + 5, none⟩ = some (.slice l[i].ka l[i].ks.length l[i].kc) := by
  rcases h.here with rfl | ⟨b, off, rfl, hlt, hc⟩
  · simp at hi
  · obtain ⟨h0, h1, h2, h3, h4, h5⟩ := hc i hi
    have hk := fun o => hb.cell (p := ⟨b, o, none⟩) hlt
    exact ⟨b, off, rfl, hlt, (hk _).trans h0, (hk _).trans h1, (hk _).trans h2, (hk _).trans h3, (hk _).trans h4, (hk _).trans h5⟩

set_option maxHeartbeats 1000000 in
theorem few_any {W : World} {a : Option Addr} {cap : Nat} {l : List ActV} (most : Nat) (hm1 : most ≤ 1000) (h : Acts W a cap l) (w : World) (hb : Below W.heap.size W w) :
    Calls Try.prog 6 #[.slice a l.length cap, .int .i64 (most : Int)] w fun e w' => e = .returned (.bool (fewB most l)) ∧ ∃ n, w' = w.drewN n := by
  have hl := h.lt
  have HH := Lib.hid h
  have HB := Lib.hid hb
  clear h hb
  go_enter Try.func6, Try.ntmps6
  go_wp2
  go_loopw [5, 9] (fun n i wr => ∃ (k q s : Nat), k ≤ l.length ∧ k ≤ most ∧ s = sizeAll (l.take k) ∧ s ≤ 100000 ∧ i = .int .i64 k ∧ n = .int .i64 s ∧ wr = w.drewN q) (fun _ i _ => l.length - (intOf i).toNat)
  case atStart => exact ⟨0, 0, 0, by omega, by omega, rfl, by omega, rfl, rfl, rfl⟩
  case round =>
    obtain ⟨k, q, s, hk, hkm, hss, hs1, rfl, rfl, rfl⟩ := hrel
    have Hss := Lib.hid hss
    clear hss
    by_cases hlt : k < l.length
    · obtain ⟨b, off, rfl, hbl, c0, c1, c2, c3, c4, c5⟩ := HH.out.cells HB.out hlt
      have hx := HH.out.ok l[k] (List.getElem_mem hlt)
      obtain ⟨x1, x2, x3, x4⟩ : l[k].a.size ≤ 140737488351232 ∧ l[k].b.size ≤ 140737488351232 ∧ l[k].data.length ≤ 140737488351232 ∧ l[k].ks.length ≤ 140737488351232 := ⟨hx.a, hx.b, hx.dl, hx.kl⟩
      clear hx
      have hst := Lib.hid (sizeAll_take l k hlt)
      have hle := Lib.hid (sizeAll_take_le l (k + 1))
      have hsz : (l[k].size : Int) = l[k].a.size + l[k].b.size + l[k].data.length + l[k].ks.length := by simp [ActV.size]
      have Hsz := Lib.hid hsz
      clear hsz
      generalize l[k] = x at *
      by_cases h1 : (most : Int) ≤ (k : Int)
      · have hf : fewB most l = false := by
          unfold fewB
          simp only [decide_eq_false_iff_not]
          omega
        have Hf := Lib.hid hf
        clear hf
        go_wp2
        go_quiet (fail)
        go_wp2
        go_ret
        exact ⟨by rw [Hf.out]; rfl, _, rfl⟩
      · by_cases h2 : (100000 : Int) < (s : Int) + x.a.size + x.b.size + x.data.length + x.ks.length
        · have hf : fewB most l = false := by
            have := hst.out
            have := hle.out
            have := Hsz.out
            have := Hss.out
            unfold fewB
            simp only [decide_eq_false_iff_not]
            omega
          have Hf := Lib.hid hf
          clear hf
          go_wp2
          go_quiet (fail)
          go_wp2
          go_ret
          exact ⟨by rw [Hf.out]; rfl, _, rfl⟩
        · go_wp2
          go_quiet (fail)
          go_wp2
          go_roundw
          case rel =>
            have := hst.out
            have := Hsz.out
            have := Hss.out
            exact ⟨k + 1, _, s + x.size, by omega, by omega, by omega, by omega, by go_num, by rw [show ((s + x.size : Nat) : Int) = (s : Int) + x.a.size + x.b.size + x.data.length + x.ks.length from by omega], rfl⟩
          case measure => simp [intOf]; omega
    · have hf : fewB most l = true := by
        have h3 : l.take k = l := List.take_of_length_le (by omega)
        have := Hss.out
        rw [h3] at this
        unfold fewB
        simp only [decide_eq_true_eq]
        omega
      have Hf := Lib.hid hf
      clear hf
      go_wp2
      go_ret
      exact ⟨by rw [Hf.out]; rfl, _, rfl⟩

theorem few60 {W : World} {a : Option Addr} {cap : Nat} {l : List ActV} (h : Acts W a cap l) (w : World) (hb : Below W.heap.size W w) :
    Calls Try.prog 6 #[.slice a l.length cap, .int .i64 60] w fun e w' => e = .returned (.bool (fewB 60 l)) ∧ ∃ n, w' = w.drewN n := few_any 60 (by omega) h w hb
/-! Acts, done one behind the other. -/
def runS (l : List ActV) (S : St) (k : Nat) : St := (l.take k).foldl (fun S x => (doS x.act S).2) S
theorem runS_succ {l : List ActV} {S : St} {k : Nat} (h : k < l.length) : runS l S (k + 1) = (doS l[k].act (runS l S k)).2 := by
  unfold runS
  rw [List.take_succ_eq_append_getElem h, List.foldl_append]; rfl
theorem run_inv {w : World} {l : List ActV} {S : St} (hI : Inv S) (hx : ∀ x ∈ l, ActOk w x) : ∀ k, k ≤ l.length → Inv (runS l S k) ∧ (runS l S k).steps ≤ S.steps + k ∧ (runS l S k).tot ≤ S.tot + sizeAll (l.take k)
  | 0, _ => ⟨hI, Nat.le_refl _, Nat.le_add_right _ _⟩
  | k + 1, h => by
    obtain ⟨h1, h2, h3⟩ := run_inv hI hx k (by omega)
    have hok := hx _ (List.getElem_mem (show k < l.length by omega))
    obtain ⟨a1, a2, a3⟩ := h1.doS l[k].act hok.data.byte
    rw [runS_succ (by omega), sizeAll_take l k (by omega)]
    have : l[k].act.data.length ≤ l[k].size := by show l[k].data.length ≤ _; unfold ActV.size; omega
    exact ⟨a1, by omega, by omega⟩
end Go.Proofs.Ytoiggdcgfbjhpaa
