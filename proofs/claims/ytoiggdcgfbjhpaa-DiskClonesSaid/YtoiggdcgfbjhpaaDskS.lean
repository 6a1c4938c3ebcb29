/-
  A copy of bytes; a copy of a file.
-/
import Derived.Test.YtoiggdcgfbjhpaaDskR
import Derived.OwnWalk
namespace Go.Proofs.Ytoiggdcgfbjhpaa
open Go.ChangeShapes Go.WideShapes Go.ChangeAt Go.RowKit Go.Joins
set_option linter.unusedVariables false

theorem infoB : (Try.prog.info? 5).map (fun i => (i.zero, i.size, i.bytes)) = some (some (.int .u8 0), 1, 1) := by kernel_rfl
theorem eqs_none (w : World) : (binOp BinOp.eql 30 (.slice none 0 0) (.slice none 0 0)).run Try.prog w = .ok (.bool true) w := by kernel_rfl
theorem eqs_some (g n cap : Nat) (w : World) : (binOp BinOp.eql 30 (.slice (some ⟨g, 0, none⟩) n cap) (.slice none 0 0)).run Try.prog w = .ok (.bool false) w := by kernel_rfl
/-- A row of bytes that lies behind w0. -/
structure NewB (w0 w' : World) (v : Value) (n : Nat) (xs : List Value) : Prop where
  row : w'.ownsRow 0 5 1 v n xs
  new : ∀ k, v.ownBlock = some k → w0.heap.size ≤ k
  low : Below w0.heap.size w0 w'

set_option maxRecDepth 100000 in
theorem cloneB_any {w : World} {v : Value} {n : Nat} {xs : List Value} (h : w.ownsRow 0 5 1 v n xs) (hn : n ≤ 1000000) (h1 : ∀ u ∈ xs, u.oneCell' = true) :
    Calls Try.prog 39 #[v] w fun e w' => ∃ v', e = .returned v' ∧ NewB w w' v' n xs := by
  rcases h.2 with ⟨rfl, rfl⟩ | ⟨g, cap, cur, rfl, -, hg, hnc, hcm, -, -⟩
  · have hx : xs = [] := List.eq_nil_of_length_eq_zero (by simpa using h.1)
    subst hx
    have HR : Hid (NewB w w (.slice none 0 0) 0 []) := ⟨World.ownsRow_nil _ _ _ _, fun k hk => (by cases hk), Below.refl _ _⟩
    have hq := eqs_none w
    clear h h1
    go_enter Try.func39, Try.ntmps39
    go_wp2_with fail
    go_ret
    exact ⟨_, rfl, HR.out⟩
  · obtain ⟨i0, hi, hz0, hz1, hz2⟩ := info_c infoB
    have HI := Lib.hid (And.intro hi (And.intro hz0 (And.intro hz1 hz2)))
    have HX : Hid (∀ j u, xs[j]? = some u → (w.alloc (.cells #[] 5)).cell? ((⟨g, 0, none⟩ : Addr).add j) = some u) := fun j u hj => by
      have := h.cells (g := g) rfl j u hj
      have hlt := World.block_lt_of_cell? w _ this
      exact (World.cell?_alloc_lt w _ (a := (⟨g, 0, none⟩ : Addr).add j) hlt).trans this
    have HO : Hid ((w.alloc (.cells #[] 5)).ownsRow 0 5 1 (.slice (some ⟨w.heap.size, 0, none⟩) 0 0) 0 []) := World.ownsRow_made w #[] 0 (Nat.zero_le _) (Nat.zero_le _) rfl
    have HL : Hid (xs.length = n * 1) := h.1
    have H1 := Lib.hid h1
    have hcz : cap ≤ 9223372036854775807 := by unfold maxLen at hcm; omega
    have hq := eqs_some g n cap w
    clear h hi hz0 hz1 hz2 hg h1 hcm
    go_enter Try.func39, Try.ntmps39
    go_wp2_with (at_builtin; refine wpList_append_own_at _ rfl _ _ 30 rfl 0 5 i0 (.int .u8 0) 1 1 Try.underlying30 HI.out.1 HI.out.2.1 HI.out.2.2.1 HI.out.2.2.2 rfl (by decide) _ 0 [] rfl HO.out ⟨g, 0, none⟩ n cap xs rfl HL.out HX.out H1.out (by unfold maxLen; omega) (by omega) (Nat.zero_le _) ?_; intro v' w1 hown1 hg1 _ hat)
    have HR : Hid (NewB w w1 v' n xs) := by
      refine ⟨by simpa using hown1, fun k hk => ?_, ⟨hg1.os, hg1.tape, hg1.output, ?_, fun k hk => ?_⟩⟩
      · rcases hat with e | e
        · rw [e] at hk
          have : w.heap.size = k := Option.some.inj hk
          omega
        · rw [e] at hk
          have : (w.alloc (.cells #[] 5)).heap.size = k := Option.some.inj hk
          simp at this
          omega
      · have := hg1.size
        simp at this
        omega
      · rw [hg1.block k (by simp; omega) (fun e => by have : k = w.heap.size := Option.some.inj e; omega)]
        exact heap_alloc_old w _ hk
    clear hown1 hg1 hat
    go_wp2_with fail
    go_ret
    exact ⟨_, rfl, HR.out⟩

/-- A file's copy: in new blocks, its own and its bytes'. -/
def FilePost (f : Fl) (w : World) (e : Ending) (w' : World) : Prop :=
  ∃ b r, e = .returned (.pointer (some ⟨b, 0, none⟩)) ∧ w.heap.size ≤ b ∧ (∀ k, r = some k → w.heap.size ≤ k ∧ k ≠ b) ∧ FileAt w' b r f ∧ Below w.heap.size w w'

set_option maxRecDepth 100000 in
set_option maxHeartbeats 1000000 in
theorem cloneF_any {w : World} {b : Nat} {rb : Option Nat} {f : Fl} (h : FileAt w b rb f) : Calls Try.prog 27 #[.pointer (some ⟨b, 0, none⟩)] w (FilePost f w) := by
  obtain ⟨hb, hz, hs, v, hv, ho, hc⟩ := h
  have c0 : w.cell? ⟨b, 0, none⟩ = some v := by rw [cell_of_row w b 0 _ _ (0, 0) hc]; rfl
  have c1 : w.cell? ⟨b, 1, none⟩ = some (.int .i64 (f.safe : Int)) := by rw [cell_of_row w b 1 _ _ (0, 0) hc]; rfl
  obtain ⟨a, cap, rfl, -, -⟩ := own_shape ho
  have HO := Lib.hid ho
  have HB := Lib.hid hb
  have HZ := Lib.hid hz
  have HS := Lib.hid hs
  have h1 : ∀ u ∈ f.bytes.map byteD, u.oneCell' = true := fun u hu => by
    obtain ⟨n, _, rfl⟩ := List.mem_map.1 hu
    rfl
  have H1 := Lib.hid h1
  clear hb hz hs hv ho hc h1
  go_enter Try.func27, Try.ntmps27
  have e0 := cell_up c0
  have e1 := cell_up c1
  clear c0 c1
  go_wp2_with fail
  refine grow_begin (by kernel_rfl) ?_
  refine grow_take (by kernel_rfl) [0, 1, 2, 3, 5, 6, 7, 8] 4 _ _ (by kernel_rfl) ?_
  simp only [opsAt, List.getElem?_toArray, List.getElem?_cons_succ, List.getElem?_cons_zero]
  repeat (first | go_big_quiet_step (fail) | quiet_step (fail))
  refine wpQuiet_nil ?_
  intro w3 hw3
  have hb3 := below_of_up hw3
  clear e0 e1
  refine grow_one 4 (by kernel_rfl) hw3 (fun K hK => ?_)
  simp only [stepOf, List.getElem?_toArray, List.getElem?_cons_succ, List.getElem?_cons_zero]
  go_simp
  go_at_call 39
  have hrow3 : w3.ownsRow 0 5 1 (.slice a f.bytes.length cap) f.bytes.length (f.bytes.map byteD) := by
    refine ⟨HO.out.1, ?_⟩
    rcases HO.out.2 with h0 | ⟨g, cap', cur, hv, hg0, hg, r⟩
    · exact .inl h0
    · exact .inr ⟨g, cap', cur, hv, hg0, (hb3.block g (Array.getElem?_eq_some_iff.1 hg).1).trans hg, r⟩
  refine (cloneB_any hrow3 HZ.out H1.out).mono ?_
  rintro e w4 ⟨v', rfl, N4⟩
  obtain ⟨a', cap', rfl, -, -⟩ := own_shape N4.row
  have hb4 := N4.low
  have hb04 : Below w.heap.size w w4 := hb3.trans (hb4.mono hb3.size)
  have HN4 := Lib.hid N4
  have hz34 : w.heap.size ≤ w3.heap.size := hb3.size
  refine hK.out _ _ hb4 ?_
  clear hK K N4 hrow3 hb4 hw3
  intro w5 hw5
  have hb5 := below_of_up hw5
  refine grow_one 9 (by kernel_rfl) hw5 (fun K hK => ?_)
  simp only [stepOf, List.getElem?_toArray, List.getElem?_cons_succ, List.getElem?_cons_zero]
  go_simp
  refine hK.out _ _ (Below.refl _ _) ?_
  clear hK K
  intro w6 hw6
  have hb6 := hb5.trans ((below_of_up hw6).mono hb5.size)
  refine grow_one 10 (by kernel_rfl) hw6 (fun K hK => ?_)
  simp only [stepOf, List.getElem?_toArray, List.getElem?_cons_succ, List.getElem?_cons_zero]
  go_simp
  have hb06 : Below w.heap.size w w6 := hb04.trans (hb6.mono hb04.size)
  have hz6 : w4.heap.size ≤ w6.heap.size := hb6.size
  have HR : Hid (FilePost f w (.returned (.pointer (some ⟨w6.heap.size, 0, none⟩))) (w6.alloc (.cells #[.slice a' f.bytes.length cap', .int .i64 (f.safe : Int)] 69))) := by
    have hz4 := hb04.size
    have hrow : (w6.alloc (.cells #[.slice a' f.bytes.length cap', .int .i64 (f.safe : Int)] 69)).ownsRow 0 5 1 (.slice a' f.bytes.length cap') f.bytes.length (f.bytes.map byteD) := by
      refine ⟨HN4.out.row.1, ?_⟩
      rcases HN4.out.row.2 with h0 | ⟨g, cap'', cur, hv, hg0, hg, r⟩
      · exact .inl h0
      · have hlt := (Array.getElem?_eq_some_iff.1 hg).1
        exact .inr ⟨g, cap'', cur, hv, hg0, (heap_alloc_old w6 _ (by omega)).trans ((hb6.block g hlt).trans hg), r⟩
    refine ⟨w6.heap.size, _, rfl, by omega, fun k hk => ?_, ⟨HB.out, HZ.out, HS.out, .slice a' f.bytes.length cap', rfl, hrow, heap_alloc_new w6 _⟩, hb06.alloc hb06.size _⟩
    have hk1 := HN4.out.new k hk
    have hk2 : k < w4.heap.size := by
      rcases HN4.out.row.2 with ⟨h0, _⟩ | ⟨g, cap'', cur, hv, hg0, hg, r⟩
      · rw [h0] at hk; cases hk
      · rw [hv] at hk
        have : g = k := Option.some.inj hk
        subst this
        exact (Array.getElem?_eq_some_iff.1 hg).1
    exact ⟨by omega, by omega⟩
  refine hK.out _ _ ((Below.refl _ _).alloc (Nat.le_refl _) _) ?_
  clear hK K hb06 hz6 hb04 hb5 hw5 hw6 hb6 HN4 hz34 hb3
  generalize w6.alloc (.cells #[.slice a' f.bytes.length cap', .int .i64 (f.safe : Int)] 69) = w7 at *
  generalize w6.heap.size = g6 at *
  refine grow_take (by kernel_rfl) [11] 0 _ _ (by kernel_rfl) ?_
  simp only [opsAt, List.getElem?_toArray, List.getElem?_cons_succ, List.getElem?_cons_zero]
  repeat (first | go_big_quiet_step (fail) | quiet_step (fail))
  refine wpQuiet_nil ?_
  intro w8 hw8
  have hb8 := below_of_up hw8
  refine grow_done (by kernel_rfl) ?_
  have HR8 : Hid (FilePost f w (.returned (.pointer (some ⟨g6, 0, none⟩))) w8) := by
    obtain ⟨b', r, e, p1, p2, ⟨q1, q2, q3, v, q4, q5, q6⟩, p4⟩ := HR.out
    refine ⟨b', r, e, p1, p2, ⟨q1, q2, q3, v, q4, ⟨q5.1, ?_⟩, (hb8.block b' (Array.getElem?_eq_some_iff.1 q6).1).trans q6⟩, p4.trans (hb8.mono p4.size)⟩
    rcases q5.2 with h0 | ⟨g, cap'', cur, hv, hg0, hg, r⟩
    · exact .inl h0
    · exact .inr ⟨g, cap'', cur, hv, hg0, (hb8.block g (Array.getElem?_eq_some_iff.1 hg).1).trans hg, r⟩
  clear HR hb8 hw8
  go_wp2_with fail
  go_ret
  exact HR8.out
end Go.Proofs.Ytoiggdcgfbjhpaa
