/-
  Package dense's Rank and Reduce, walked.
-/
import Derived.Test.YtiglmoggpjgmbaaClearW
namespace Go.Proofs.Ytiglmoggpjgmbaa
open Go.ChangeShapes Go.WideShapes Go.ChangeAt Go.RowKit Go.Joins
set_option linter.unusedVariables false

/-- What the elimination of rows with rights has left. -/
structure EDone (M N : Nat) (rows right : Rws) (w0 w : World) (v : Value) (ys : List (LV × St)) (zs : List Ln) : Prop where
  inv : ∃ D, D.Perm (List.zipWith Ln.mk rows right) ∧ Inv M N D (ys.map (·.2)) zs
  own : ∃ B, w0.heap.size ≤ B ∧ w.ownsRow B 48 3 v ys.length (enc3 (ys.map (·.1)))
  steps : ∀ y ∈ ys, LineAt w y.1 y.2.1 ∧ y.1.ld = (y.2.2 : Int)
  low : Below w0.heap.size w0 w

def DonePost (M N : Nat) (rows right : Rws) (w0 : World) (e : Ending) (w' : World) : Prop :=
  ∃ v ys zs, e = .returned (.tuple #[v, .bool (allZ zs)]) ∧ EDone M N rows right w0 w' v ys zs

/-- Echelon behind lines. -/
theorem done_any {M N : Nat} {rows right : Rws} {w0 w1 : World} {g : Nat} {ps : List (LV × Ln)} (hn : rows.length ≤ 1000) (hM : M ≤ 1000) (hN : N ≤ 1000) (hb : ∀ x ∈ rows, IsByte x) (hb2 : ∀ x ∈ right, IsByte x) (hl : ∀ x ∈ rows, x.length ≤ N) (hl2 : ∀ x ∈ right, x.length = M) (he : right.length = rows.length)
    (hg : w0.heap.size ≤ g) (hblk : w1.heap[g]? = some (.cells (enc3 (ps.map (·.1))).toArray 48 (0, 0))) (L : Lns w0.heap.size w1 ps) (hp : (ps.map (·.2)).Perm (List.zipWith Ln.mk rows right)) (hup : (ps.map fun p => p.2.row.length).Pairwise (· ≤ ·)) (hlow : Below w0.heap.size w0 w1) :
    Calls Try.prog 18 #[.slice (some ⟨g, 0, none⟩) rows.length rows.length] w1 (DonePost M N rows right w0) := by
  have hpl : ps.length = rows.length := by have := hp.length_eq; rw [List.length_map, List.length_zipWith] at this; omega
  have hmem : ∀ p ∈ ps, p.2.row ∈ rows ∧ p.2.right ∈ right := fun p hp' => by
    have h1 : p.2 ∈ List.zipWith Ln.mk rows right := hp.mem_iff.1 (List.mem_map.2 ⟨p, hp', rfl⟩)
    obtain ⟨i, hi, e⟩ := List.getElem_of_mem h1
    rw [List.getElem_zipWith] at e
    rw [List.length_zipWith] at hi
    rw [← e]
    exact ⟨List.getElem_mem _, List.getElem_mem _⟩
  have h := echelon_any M N w0.heap.size g ps w1 hblk L (by omega) hM hN (fun p hp => ⟨hb _ (hmem p hp).1, hb2 _ (hmem p hp).2, hl2 _ (hmem p hp).2⟩) (fun p hp => hl _ (hmem p hp).1) hup
  rw [hpl] at h
  refine h.mono ?_
  rintro e w2 ⟨v, ys, zs, rfl, E⟩
  refine ⟨v, ys, zs, rfl, ⟨_, ?_, E.inv⟩, ⟨_, hlow.size, E.own⟩, fun y hy => ⟨(E.steps y hy).1, (E.steps y hy).2.1⟩, ?_⟩
  · rw [List.take_of_length_le (Nat.le_refl _)]; exact hp
  · refine hlow.trans (E.fr.below hlow.size fun k hk ⟨p, hp, e⟩ => ?_)
    have := (L.from' p (List.mem_of_mem_take hp)).1
    omega

theorem zip_same {D : List Ln} {rows right : Rws} (hp : D.Perm (List.zipWith Ln.mk rows right)) (he : right.length = rows.length) : Same D rows := by
  refine ⟨fun r hr => ?_, fun l hl => ?_⟩
  · obtain ⟨i, hi, rfl⟩ := List.getElem_of_mem hr
    refine ⟨⟨rows[i], right[i]⟩, hp.mem_iff.2 ?_, rfl⟩
    rw [List.mem_iff_getElem]
    exact ⟨i, by rw [List.length_zipWith]; omega, by rw [List.getElem_zipWith]⟩
  · obtain ⟨i, hi, e⟩ := List.getElem_of_mem (hp.mem_iff.1 hl)
    rw [List.getElem_zipWith] at e
    rw [← e]
    exact List.getElem_mem _
theorem EDone.rank {M N : Nat} {rows right : Rws} {w0 w : World} {v : Value} {ys : List (LV × St)} {zs : List Ln} (h : EDone M N rows right w0 w v ys zs) (he : right.length = rows.length) (hb : ∀ x ∈ rows, IsByte x) {K : Nat} (hK : ∀ x ∈ rows, x.length ≤ K) :
    ys.map (·.2.2) = (echTo (pads rows K) K).2 := by
  obtain ⟨D, hp, hi⟩ := h.inv
  have := leads_same hi (zip_same hp he) hb hK
  rw [← this, List.map_map]; rfl

def nilsOf (rows : Rws) : Rws := List.replicate rows.length []

set_option maxRecDepth 100000 in
set_option maxHeartbeats 1000000 in
theorem rank_any (B : Nat) (a : Option Addr) (cap : Nat) (ls : Rws) (w : World) (hB : B ≤ w.heap.size) (hs : Rs B w a cap ls) (hl : ls.length ≤ 1000) (hm : ∀ x ∈ ls, x.length ≤ 1000) :
    Calls Try.prog 11 #[.slice a ls.length cap] w fun e w' => e = .returned (.int .i64 ((rankN ls : Nat) : Int)) ∧ Below w.heap.size w w' := by
  obtain ⟨w1, hmk, hnil, hb1⟩ := make_nils ls.length (by omega) w
  have hlin := lines_any w1.heap.size a (some ⟨w.heap.size, 0, none⟩) cap ls.length ls (nilsOf ls) w1 (Nat.le_refl _) (by
      refine ⟨hs.len, hs.most, hs.none, hs.here.imp id fun ⟨b, off, e, hb, hr⟩ => ⟨b, off, e, by have := hb1.size; omega, fun i hi => ?_⟩⟩
      obtain ⟨a', c', h1, h2⟩ := hr i hi
      exact ⟨a', c', (hb1.cell (p := ⟨b, off + i, none⟩) (by show b < _; omega)).trans h1, Rw.of_sl (h2.sl.below hb1)⟩) hnil (by simp [nilsOf]) (by omega) (fun x hx => Nat.le_trans (hm x hx) (by omega)) (fun x hx => by rw [List.eq_of_mem_replicate hx]; simp)
  rw [show (nilsOf ls).length = ls.length from List.length_replicate] at hlin
  have HL := Lib.hid hlin
  have HD : Hid (∀ w2 g ps, w1.heap.size ≤ g → w2.heap[g]? = some (.cells (enc3 (ps.map (·.1))).toArray 48 (0, 0)) → Lns w1.heap.size w2 ps → (ps.map (·.2)).Perm (List.zipWith Ln.mk ls (nilsOf ls)) → (ps.map fun p => p.2.row.length).Pairwise (· ≤ ·) → Below w1.heap.size w1 w2 →
      Calls Try.prog 18 #[.slice (some ⟨g, 0, none⟩) ls.length ls.length] w2 (DonePost 0 (longN ls) ls (nilsOf ls) w1)) := fun w2 g ps h1 h2 h3 h4 h5 h6 =>
    done_any hl (Nat.zero_le _) (longN_le hm) hs.byte (fun x hx => by rw [List.eq_of_mem_replicate hx]; simp [IsByte]) longN_ge (fun x hx => by rw [List.eq_of_mem_replicate hx]; rfl) (by simp [nilsOf]) h1 h2 h3 h4 h5 h6
  have HBY := Lib.hid hs.byte
  have HM := Lib.hid hm
  have HB1 := Lib.hid hb1
  have hlm := hs.lt
  clear hs hm hlin hnil hb1
  go_enter Try.func11, Try.ntmps11
  go_wp2_with fail
  (with_reducible refine HL.out.mono ?_)
  rintro e w2 ⟨g, ps, rfl, h1, h2, h3, h4, h5, h6⟩
  have hd := HD.out w2 g ps h1 h2 h3 h4 h5 h6
  have HB2 := Lib.hid h6
  clear h1 h2 h3 h4 h5 h6 HL HD hmk
  go_wp2_with fail
  (with_reducible refine hd.mono ?_)
  rintro e w3 ⟨v, ys, zs, rfl, E⟩
  have HR : Hid (ys.length = rankN ls) := by
    have := E.rank (by simp [nilsOf]) HBY.out (K := longN ls) longN_ge
    have h := congrArg List.length this
    rw [List.length_map] at h
    exact h
  have HB3 : Hid (Below w.heap.size w w3) := HB1.out.trans (E.low.mono HB1.out.size)
  obtain ⟨B3, hb3, ho3⟩ := E.own
  obtain ⟨a3, c3, rfl, hc1, hc2, -, -⟩ := own_form ho3
  have hc3 : c3 ≤ 9223372036854775807 := by unfold maxLen at hc1; omega
  clear hd E hb3 ho3 hc1 HB2
  go_wp2_with fail
  go_ret
  exact ⟨by rw [← HR.out]; rfl, HB3.out⟩
end Go.Proofs.Ytiglmoggpjgmbaa
