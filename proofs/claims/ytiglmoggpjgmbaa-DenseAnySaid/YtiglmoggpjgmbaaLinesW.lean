/-
  Package dense's lines, walked.
-/
import Derived.Test.YtiglmoggpjgmbaaLines
namespace Go.Proofs.Ytiglmoggpjgmbaa
open Go.ChangeShapes Go.WideShapes Go.ChangeAt Go.RowKit Go.Joins
set_option linter.unusedVariables false

def LinesPost (rows right : Rws) (w : World) (e : Ending) (w' : World) : Prop :=
  ∃ g ps, e = .returned (.slice (some ⟨g, 0, none⟩) rows.length rows.length) ∧ w.heap.size ≤ g ∧ w'.heap[g]? = some (.cells (enc3 (ps.map (·.1))).toArray 48 (0, 0)) ∧ Lns w.heap.size w' ps ∧ (ps.map (·.2)).Perm (List.zipWith Ln.mk rows right) ∧ (ps.map fun p => p.2.row.length).Pairwise (· ≤ ·) ∧ Below w.heap.size w w'

/-- Some of the lines are copied. -/
structure Copied (rows right : Rws) (w : World) (g : Nat) (wr : World) (ps : List (LV × Ln)) (cs : Array Value) (k : Nat) : Prop where
  len : ps.length = k
  lns : Lns w.heap.size wr ps
  fill : Fill3 wr g rows.length (ps.map (·.1)) cs
  what : ps.map (·.2) = (List.zipWith Ln.mk rows right).take k
  low : Below w.heap.size w wr
  from' : w.heap.size ≤ g

theorem zip_take {rows right : Rws} {k : Nat} (h1 : k < rows.length) (h2 : k < right.length) : (List.zipWith Ln.mk rows right).take (k + 1) = (List.zipWith Ln.mk rows right).take k ++ [⟨rows[k], right[k]⟩] := by
  rw [List.take_succ_eq_append_getElem (by simp; omega)]
  simp

/-- One more line. -/
theorem Copied.step {rows right : Rws} {w wr w8 : World} {g k : Nat} {ps : List (LV × Ln)} {cs : Array Value} (h : Copied rows right w g wr ps cs k) (h1 : k < rows.length) (h2 : k < right.length) (hb : Below wr.heap.size wr w8)
    {rb gb : Nat} {l q : List Nat} (hl : rows[k] = l) (hq : right[k] = q) (hr : BlkB w8 rb l) (hg : BlkB w8 gb q) (ne : gb ≠ rb) (r1 : wr.heap.size ≤ rb) (g1 : wr.heap.size ≤ gb) :
    ∃ ps' cs', Copied rows right w g (((w8.setCell ⟨g, k * 3, none⟩ (.slice (some ⟨rb, 0, none⟩) l.length l.length)).setCell ⟨g, k * 3 + 1, none⟩ (.slice (some ⟨gb, 0, none⟩) q.length q.length)).setCell ⟨g, k * 3 + 2, none⟩ (.int .i64 0)) ps' cs' (k + 1) := by
  have F8 := h.fill.below hb
  have hlen : (ps.map (·.1)).length = k := by rw [List.length_map]; exact h.len
  obtain ⟨cs', F9⟩ := F8.set (by rw [hlen]; exact h1) ⟨rb, l.length, gb, q.length, 0⟩
  rw [hlen] at F9
  have hglt : g < wr.heap.size := (Array.getElem?_eq_some_iff.1 h.fill.blk).1
  have hx : LineAt w8 ⟨rb, l.length, gb, q.length, 0⟩ ⟨l, q⟩ := ⟨hr, rfl, hg, rfl⟩
  have L8 : Lns w.heap.size w8 (ps ++ [(⟨rb, l.length, gb, q.length, 0⟩, ⟨l, q⟩)]) := h.lns.snoc hb hx r1 g1 ne h.low.size
  have keep : ∀ (b : Nat) (m : List Nat), b ≠ g → BlkB w8 b m → BlkB (((w8.setCell ⟨g, k * 3, none⟩ (.slice (some ⟨rb, 0, none⟩) l.length l.length)).setCell ⟨g, k * 3 + 1, none⟩ (.slice (some ⟨gb, 0, none⟩) q.length q.length)).setCell ⟨g, k * 3 + 2, none⟩ (.int .i64 0)) b m := fun b m hne hb => ((hb.set (p := ⟨g, _, none⟩) hne _).set (p := ⟨g, _, none⟩) hne _).set (p := ⟨g, _, none⟩) hne _
  have neg : ∀ (b : Nat) (m : List Nat), BlkB w8 b m → b ≠ g := fun b m hb e => by
    subst e
    have h1 : w8.heap[b]? = _ := hb
    rw [F8.blk] at h1
    injection h1 with h1
    injection h1 with _ h1 _
    cases h1
  refine ⟨_, cs', by rw [List.length_append]; simp [h.len], ⟨fun p hp => ?_, L8.from', L8.rows, L8.rights⟩, by rw [List.map_append]; exact F9, ?_, ?_, h.from'⟩
  · have := L8.line p hp
    exact ⟨keep _ _ (neg _ _ this.row) this.row, this.rl, keep _ _ (neg _ _ this.right) this.right, this.gl⟩
  · rw [List.map_append, h.what, zip_take h1 h2, hl, hq]; rfl
  · have := h.low.trans (hb.mono h.low.size)
    exact ((this.setCell (p := ⟨g, _, none⟩) h.from' _).setCell (p := ⟨g, _, none⟩) h.from' _).setCell (p := ⟨g, _, none⟩) h.from' _

set_option maxRecDepth 100000 in
set_option maxHeartbeats 4000000 in
theorem lines_any (B : Nat) (ra ga : Option Addr) (rc gc : Nat) (rows right : Rws) (w : World) (hB : B ≤ w.heap.size) (hr : Rs B w ra rc rows) (hg : Rs B w ga gc right) (he : right.length = rows.length) (hn : rows.length ≤ 1000000) (hm : ∀ x ∈ rows, x.length ≤ 1000000) (hm2 : ∀ x ∈ right, x.length ≤ 1000000) :
    Calls Try.prog 19 #[.slice ra rows.length rc, .slice ga right.length gc] w (LinesPost rows right w) := by
  obtain ⟨cs0, hcs, hmk⟩ := make_lines rows.length hn
  have hmk0 := hmk w
  have HB := Lib.hid hB
  have HR := Lib.hid hr
  have HG := Lib.hid hg
  have HE := Lib.hid he
  have HM := Lib.hid hm
  have HM2 := Lib.hid hm2
  have C0 : (Copied rows right w w.heap.size (w.alloc (.cells cs0 48)) [] cs0 0) :=
    ⟨rfl, Lns.nil _ _, ⟨heap_alloc_last w _, hcs, by simp [enc3]⟩, by simp, (Below.refl _ _).alloc (Nat.le_refl _) _, Nat.le_refl _⟩
  have mixed : Try.prog.follows .mixedOrders = true := by kernel_rfl
  have hlm2 := hg.lt
  obtain ⟨g, hg0⟩ : ∃ g, g = w.heap.size := ⟨_, rfl⟩
  obtain ⟨w0, hw0⟩ : ∃ w0, w0 = w.alloc (.cells cs0 48) := ⟨_, rfl⟩
  have HG0 := Lib.hid hg0
  rw [← hg0, ← hw0] at hmk0
  rw [← hg0, ← hw0] at C0
  have C1 := Lib.hid C0
  clear C0 hcs hmk hr hg he hm hm2 hg0 hw0
  go_enter Try.func19, Try.ntmps19
  go_wp2_with fail
  clear hmk0
  go_loopw [13] (fun i wr => ∃ (k : Nat) (ps : List (LV × Ln)) (cs : Array Value), k ≤ rows.length ∧ i = .int .i64 k ∧ Hid (Copied rows right w g wr ps cs k)) (fun i _ => rows.length - (intOf i).toNat)
  case atStart => exact ⟨0, [], cs0, by omega, rfl, C1.out⟩
  case round =>
    obtain ⟨k, ps, cs, hk, rfl, HC⟩ := hrel
    by_cases hlt : k < rows.length
    · have hlt2 : k < right.length := by rw [HE.out]; exact hlt
      have hlow := HC.out.low
      obtain ⟨b, off, rfl, hbB, hrr⟩ := (HR.out.keep HB.out (Keep.of_below hlow)).some hlt
      obtain ⟨a1, c1, hck, hrw⟩ := hrr k hlt
      obtain ⟨b2, off2, rfl, hbB2, hgg⟩ := (HG.out.keep HB.out (Keep.of_below hlow)).some hlt2
      obtain ⟨a2, c2, hck2, hgw⟩ := hgg k hlt2
      have hl1 : rows[k].length ≤ 1000000 := HM.out _ (List.getElem_mem hlt)
      have hl2 : right[k].length ≤ 1000000 := HM2.out _ (List.getElem_mem hlt2)
      have hglt : g < wr.heap.size := (Array.getElem?_eq_some_iff.1 HC.out.fill.blk).1
      have HS1 := Lib.hid hrw.sl
      have HS2 := Lib.hid hgw.sl
      have STEP : Hid (∀ (w8 : World), Below wr.heap.size wr w8 → ∀ (rb gb : Nat), BlkB w8 rb rows[k] → BlkB w8 gb right[k] → gb ≠ rb → wr.heap.size ≤ rb → wr.heap.size ≤ gb → _) := fun w8 hb rb gb hr hg ne r1 g1 => HC.out.step hlt hlt2 hb rfl rfl hr hg ne r1 g1
      obtain ⟨u0, hu0⟩ := HC.out.fill.has (j := k * 3) (by omega)
      obtain ⟨u1, hu1⟩ := HC.out.fill.has (j := k * 3 + 1) (by omega)
      obtain ⟨u2, hu2⟩ := HC.out.fill.has (j := k * 3 + 2) (by omega)
      have HF : Hid (∀ w8, Below wr.heap.size wr w8 → ∀ j, w8.frozen? ⟨g, j, none⟩ = false) := fun w8 hb j => (HC.out.fill.below hb).loose j
      generalize rows[k] = l at *
      generalize right[k] = q at *
      have hltz : (k : Int) < (rows.length : Int) := by omega
      have hltz2 : (k : Int) < (right.length : Int) := by omega
      clear hlow hrr hgg hrw hgw HC
      go_wp2_with fail
      have cc := cell_up hck2
      refine growT_begin 18 (by kernel_rfl) ?_
      refine growT_take (by kernel_rfl) [0, 1, 2, 3, 4, 6, 7, 8, 9, 10, 11, 12, 13, 14] 5 _ _ (by kernel_rfl) ?_
      simp only [opsAt, List.getElem?_toArray, List.getElem?_cons_succ, List.getElem?_cons_zero]
      repeat (first | go_big_quiet_step (fail) | quiet_step (fail))
      refine wpQuiet_nil ?_
      intro w1 hw1
      have hb1 := below_of_up hw1
      clear cc
      clear hck hck2
      refine growT_one 5 (by kernel_rfl) hw1 (fun K hK => ?_)
      simp only [stepOf, List.getElem?_toArray, List.getElem?_cons_succ, List.getElem?_cons_zero]
      go_simp
      go_at_call 33
      refine (filled_any _ _ l l.length w1 hl1 (HS1.out.below hb1)).mono ?_
      rintro e w2 ⟨rfl, hn2⟩
      have hb12 := hn2.below
      refine hK.out _ _ hb12 ?_
      clear hK K
      have R1 : Hid (BlkB w2 w1.heap.size l) := by
        have := BlkB.of_new hn2 (fillN_len _ _)
        rwa [fillN_self] at this
      have hb02 : Below wr.heap.size wr w2 := hb1.trans (hb12.mono hb1.size)
      have lt1 : wr.heap.size ≤ w1.heap.size := hb1.size
      have lt2 : w1.heap.size < w2.heap.size := R1.out.lt
      generalize w1.heap.size = b1 at *
      clear hn2 hb12 hb1 hw1
      intro w3 hw3
      have hb3 := below_of_up hw3
      have hb03 : Below wr.heap.size wr w3 := hb02.trans (hb3.mono hb02.size)
      have lt3 : w2.heap.size ≤ w3.heap.size := hb3.size
      refine growT_one 15 (by kernel_rfl) hw3 (fun K hK => ?_)
      simp only [stepOf, List.getElem?_toArray, List.getElem?_cons_succ, List.getElem?_cons_zero]
      go_simp
      go_at_call 33
      refine (filled_any _ _ q q.length w3 hl2 (HS2.out.below hb03)).mono ?_
      rintro e w4 ⟨rfl, hn4⟩
      have hb34 := hn4.below
      refine hK.out _ _ hb34 ?_
      clear hK K
      have R2 : Hid (BlkB w4 w3.heap.size q) := by
        have := BlkB.of_new hn4 (fillN_len _ _)
        rwa [fillN_self] at this
      have hb24 : Below w2.heap.size w2 w4 := hb3.trans (hb34.mono hb3.size)
      have hb04 : Below wr.heap.size wr w4 := hb02.trans (hb24.mono hb02.size)
      have R14 := Lib.hid (R1.out.below hb24)
      generalize w3.heap.size = b2 at *
      clear hn4 hb34 hb24 hb3 hw3 hb03 R1
      intro w5 hw5
      have hb5 := below_of_up hw5
      have hb05 : Below wr.heap.size wr w5 := hb04.trans (hb5.mono hb04.size)
      have R15 := Lib.hid (R14.out.below hb5)
      have R25 := Lib.hid (R2.out.below hb5)
      refine growT_one 16 (by kernel_rfl) hw5 (fun K hK => ?_)
      simp only [stepOf, List.getElem?_toArray, List.getElem?_cons_succ, List.getElem?_cons_zero]
      go_simp
      refine hK.out _ _ (Below.refl _ _) ?_
      clear hK K hb5 hw5 hb04 R14 R2
      refine growT_take (by kernel_rfl) [17] 1 _ _ (by kernel_rfl) ?_
      simp only [opsAt, List.getElem?_toArray, List.getElem?_cons_succ, List.getElem?_cons_zero]
      repeat (first | go_big_quiet_step (fail) | quiet_step (fail))
      refine wpQuiet_nil ?_
      intro w8 hw8
      have hb8 := below_of_up hw8
      have hb08 : Below wr.heap.size wr w8 := hb05.trans (hb8.mono hb05.size)
      have k0 := (hb08.cell (p := ⟨g, k * 3, none⟩) hglt).trans hu0
      have k1 := (hb08.cell (p := ⟨g, k * 3 + 1, none⟩) hglt).trans hu1
      have k2 := (hb08.cell (p := ⟨g, k * 3 + 2, none⟩) hglt).trans hu2
      have f0 := HF.out w8 hb08 (k * 3)
      have f1 := HF.out w8 hb08 (k * 3 + 1)
      have f2 := HF.out w8 hb08 (k * 3 + 2)
      obtain ⟨ps', cs', HC'⟩ := STEP.out w8 hb08 b1 b2 (R15.out.below hb8) (R25.out.below hb8) (by omega) (by omega) (by omega)
      have HC2 := Lib.hid HC'
      clear HC' hb08 hb8 hw8 hb05 R15 R25 hb02
      refine growT_last (by kernel_rfl) (by kernel_rfl) (fun K hK => ?_)
      simp only [stepOf, List.getElem?_toArray, List.getElem?_cons_succ, List.getElem?_cons_zero]
      go_simp
      refine hK.out _ _ ?_
      clear hK K
      go_wp2_with fail
      go_roundw
      case rel => exact ⟨k + 1, ps', cs', by omega, by go_num, HC2⟩
      case measure => simp [intOf]; omega
    · obtain rfl : k = rows.length := by omega
      have hltz : ¬ (rows.length : Int) < (rows.length : Int) := by omega
      obtain ⟨d, hd⟩ : ∃ d : Array LV, d = (ps.map (·.1)).toArray := ⟨_, rfl⟩
      have hdl : d.toList = ps.map (·.1) := by rw [hd]
      have hds : d.size = rows.length := by rw [hd, List.size_toArray, List.length_map, HC.out.len]
      have hblk : wr.heap[g]? = some (.cells (enc3 d.toList).toArray 48 (0, 0)) := by
        rw [HC.out.fill.blk, HC.out.fill.full (by rw [List.length_map, HC.out.len]), hdl]
      have h := sortStable_any g rows.length d wr (rl_of hblk) (by omega)
      rw [hds] at h
      have HD := Lib.hid (And.intro hblk (And.intro hdl hds))
      clear hd hdl hds hblk
      go_wp2_with fail
      (with_reducible refine h.mono ?_)
      rintro e w2 ⟨rfl, d', S2, P2, O2⟩
      have F : Hid (LinesPost rows right w (.returned (.slice (some ⟨g, 0, none⟩) rows.length rows.length)) w2) := by
        obtain ⟨hblk, hdl, hds⟩ := HD.out
        have hsz : d'.size = d.size := P2.1
        obtain ⟨hb2, fr2⟩ := sl_block S2 hblk hsz
        have hpm : d'.toList.Perm d.toList := by
          have := P2.2.2
          rwa [Array.extract_size, ← hsz, Array.extract_size] at this
        rw [hdl] at hpm
        obtain ⟨qs, hq1, hq2⟩ := perm_lift hpm ps rfl
        have C := HC.out
        have hne : ∀ p ∈ ps, p.1.rb ≠ g ∧ p.1.gb ≠ g := fun p hp => by
          have hl := C.lns.line p hp
          have key : ∀ (b : Nat) (m : List Nat), BlkB wr b m → b ≠ g := fun b m hb e => by
            subst e
            have h1 : wr.heap[b]? = _ := hb
            rw [C.fill.blk] at h1
            injection h1 with h1
            injection h1 with _ h1 _
            cases h1
          exact ⟨key _ _ hl.row, key _ _ hl.right⟩
        have L2 : Lns w.heap.size w2 ps := ⟨fun p hp => (C.lns.line p hp).fr fr2 (hne p hp).1 (hne p hp).2, C.lns.from', C.lns.rows, C.lns.rights⟩
        have L3 := L2.perm hq1
        refine ⟨g, qs, rfl, C.from', by rw [hq2]; exact hb2, L3, ?_, ?_, ?_⟩
        · have := hq1.map (·.2)
          rw [C.what, List.take_of_length_le (by rw [List.length_zipWith]; have := HE.out; omega)] at this
          exact this
        · rw [List.pairwise_iff_getElem]
          intro i j hi hj hij
          rw [List.length_map] at hi hj
          simp only [List.getElem_map]
          have hql : qs.length = d'.size := by have := congrArg List.length hq2; rw [List.length_map, Array.length_toList] at this; exact this
          have o := O2 i j (Nat.zero_le _) hij (by omega)
          have ei : d'[i]! = qs[i].1 := by
            rw [getElem!_pos d' i (by omega)]
            have : d'.toList[i]'(by rw [Array.length_toList]; omega) = qs[i].1 := by simp only [← hq2, List.getElem_map]
            simpa using this
          have ej : d'[j]! = qs[j].1 := by
            rw [getElem!_pos d' j (by omega)]
            have : d'.toList[j]'(by rw [Array.length_toList]; omega) = qs[j].1 := by simp only [← hq2, List.getElem_map]
            simpa using this
          rw [ei, ej] at o
          have l1 := (L3.line _ (List.getElem_mem hi)).rl
          have l2 := (L3.line _ (List.getElem_mem hj)).rl
          simp [ltR] at o
          omega
        · exact C.low.trans ((fr2.below C.low.size (fun k hk e => by have := C.from'; omega)))
      clear S2 P2 O2 h HC HD
      go_wp2_with fail
      go_ret
      exact F.out
end Go.Proofs.Ytiglmoggpjgmbaa
