/-
  Package row's Of.
-/
import Derived.Test.YtgfcpneblkleiaaRowA
import Derived.Test.YtgfcpneblkleiaaPreC
import Derived.Test.YtgfcpneblkleiaaFr
namespace Go.Proofs.Ytgfcpneblkleiaa
open Go.ChangeShapes Go.WideShapes Go.ChangeAt Go.RowKit Go.Joins
set_option linter.unusedVariables false

/-- While picks are added: the row lies in block g; blocks of before stay, but for the row's first one. -/
structure OfAt (g0 : Nat) (w3 wr : World) (k g : Nat) (l : List Nat) : Prop where
  row : Row wr g 5 k k (vOf l)
  fr : Fr (fun b => b = g0) w3 wr
  spot : g = g0 ∨ w3.heap.size ≤ g
theorem OfAt.later {g0 : Nat} {w3 wr w' : World} {k g : Nat} {l : List Nat} (h : OfAt g0 w3 wr k g l) (b : Below wr.heap.size wr w') : OfAt g0 w3 w' k g l :=
  ⟨h.row.below b h.row.lt, h.fr.later b, h.spot⟩
theorem OfAt.set {g0 : Nat} {w3 wr : World} {k g : Nat} {l : List Nat} (h : OfAt g0 w3 wr k g l) (hl : l.length = k) {i : Nat} (hi : i < k) (v : Nat) : OfAt g0 w3 (wr.setCell ⟨g, i, none⟩ (.int .u8 (v : Int))) k g (l.set i v) :=
  ⟨h.row.set_at hl hi v, h.fr.set (p := ⟨g, i, none⟩) (fun hlt => by
    have hg : g < w3.heap.size := hlt
    show g = g0
    rcases h.spot with e | e
    · exact e
    · omega) _, h.spot⟩
theorem OfAt.turn {g0 : Nat} {w3 wr w' : World} {k g g' : Nat} {l l' : List Nat} (h : OfAt g0 w3 wr k g l) (hs : wr.heap.size ≤ g') (b : Below wr.heap.size wr w') (hr : Row w' g' 5 k k (vOf l')) : OfAt g0 w3 w' k g' l' :=
  ⟨hr, h.fr.later b, .inr (Nat.le_trans h.fr.size hs)⟩
/-- What is read of the parities. -/
structure Pars (g0 : Nat) (w3 : World) (gr k q : Nat) : Prop where
  lt : gr < w3.heap.size
  ne : gr ≠ g0
  at' : ∀ j, j < q → ∃ b off c, w3.cell? ⟨gr, j, none⟩ = some (.slice (some ⟨b, off, none⟩) k c) ∧ b ≠ g0 ∧ Sl w3 (some ⟨b, off, none⟩) c (parRow k j)
theorem Pars.of {w1 w2 : World} {g0 gr k : Nat} (hk : 1 ≤ k) (h0 : g0 < w1.heap.size) (hg : Grid w1.heap.size w2 gr (parRows k)) (hc : CellsHi w1.heap.size w2 gr) : Pars g0 w2 gr k (spN k + 2) := by
  refine ⟨hg.lt, by have := hg.low; omega, fun j hj => ?_⟩
  obtain ⟨a, c, e1, e2⟩ := hg.cell (i := j) (by rw [parRows_len]; exact hj)
  rw [parRows_get] at e1 e2
  rw [parRow_len] at e1
  obtain ⟨b, off, rfl, _⟩ := e2.sl.some (k := 0) (by rw [parRow_len]; omega)
  exact ⟨b, off, c, e1, by have := hc.at e1; simp at this; omega, e2.sl⟩
theorem Pars.below {g0 : Nat} {w w' : World} {gr k q : Nat} (h : Pars g0 w gr k q) (b : Below w.heap.size w w') : Pars g0 w' gr k q := by
  refine ⟨Nat.lt_of_lt_of_le h.lt b.size, h.ne, fun j hj => ?_⟩
  obtain ⟨q, off, c, e1, e2, e3⟩ := h.at' j hj
  exact ⟨q, off, c, by rw [b.cell (p := ⟨gr, j, none⟩) h.lt]; exact e1, e2, e3.below b⟩
theorem Pars.read {g0 : Nat} {w3 wr : World} {gr k q : Nat} (h : Pars g0 w3 gr k q) (hk : 1 ≤ k) (f : Fr (fun b => b = g0) w3 wr) {j : Nat} (hj : j < q) : ∃ b off c, wr.cell? ⟨gr, j, none⟩ = some (.slice (some ⟨b, off, none⟩) k c) ∧ Sl wr (some ⟨b, off, none⟩) c (parRow k j) := by
  obtain ⟨b, off, c, e1, e2, e3⟩ := h.at' j hj
  refine ⟨b, off, c, ?_, e3.byte, e3.len, e3.most, e3.none, ?_⟩
  · rw [World.cell?_of_block (w := w3) (a := ⟨gr, j, none⟩) (f.block gr h.lt h.ne)]; exact e1
  · rcases e3.here with e | ⟨b', off', e, hb⟩
    · exact .inl e
    · cases e
      refine .inr ⟨b, off, rfl, hb.of_block (f.block b ?_ e2)⟩
      exact World.block_lt_of_cell? w3 _ (hb 0 (by rw [parRow_len]; omega))

theorem add_still (a b : Nat) (ha : a < 256) (hb : b < 256) (w : World) :
    Calls Try.prog 30 #[.int .u8 (a : Int), .int .u8 (b : Int)] w fun e w' => e = .returned (.int .u8 ((a ^^^ b : Nat) : Int)) ∧ w' = w :=
  (add_any a b ha hb w).mono fun _ _ ⟨h1, h2⟩ => ⟨h1, h2.symm⟩

def OfPost (k : Nat) (l : List Nat) (w : World) (e : Ending) (w' : World) : Prop :=
  ∃ g, e = .returned (.slice (some ⟨g, 0, none⟩) k k) ∧ w.heap.size ≤ g ∧ Row w' g 5 k k (vOf l) ∧ Below w.heap.size w w'

set_option maxHeartbeats 1000000 in
theorem of_any (k id : Nat) (h1 : 1 ≤ k) (hk : k ≤ 64) (hid : id < 4294967296) (w : World) :
    Calls Try.prog 20 #[.int .i64 (k : Int), .int .u32 (id : Int)] w (OfPost k (rowN k id) w) := by
  have hsb := spN_bound hk
  have E0 := Lib.hid (count_any k h1 hk)
  have E1 := Lib.hid (rows_hi_pre k h1 hk)
  have E2 := Lib.hid (picks_any k id h1 hk hid)
  have hmk := make_row k (by omega) w
  have HPM : Hid (∀ p ∈ picksN k id, p.1 < k + (spN k + 2) ∧ p.2 < 256) := fun p hp => ⟨(picksN_mem hp).1, (picksN_mem hp).2.1⟩
  have HR : Hid (rowN k id = rowTo k (picksN k id) (picksN k id).length) := rfl
  have HRO : Hid (∀ i, i ≤ (picksN k id).length → (rowTo k (picksN k id) i).length = k ∧ IsByte (rowTo k (picksN k id) i)) := fun i hi => rowTo_ok (fun p hp => (picksN_mem hp).2.1) i hi
  have hPL : (picksN k id).length ≤ 1000 := by
    have h1 := cellsTo_len (numsN k id) (numsN k id).length
    rw [numsN_len] at h1
    show (cellsTo _ _).length ≤ 1000
    rw [numsN_len]; omega
  rw [HR.out]
  generalize picksN k id = P at *
  have HST : Hid (∀ i, rowTo k P (i + 1) = addPick k (rowTo k P i) (P.getD i (0, 0))) := fun i => rfl
  have HZ : Hid (rowTo k P 0 = List.replicate k 0) := rfl
  generalize rowTo k P = T at *
  have HR0 : Hid (Row (w.alloc (.cells (rowArr k zV) 5)) w.heap.size 5 k k (vOf (T 0))) := by
    rw [HZ.out]; exact Row.new_whole w _ 5 (vOf (List.replicate k 0)) _ _ rfl (zeros_arr k)
  have HBA : Hid (Below w.heap.size w (w.alloc (.cells (rowArr k zV) 5))) := (Below.refl _ _).alloc (Nat.le_refl _) _
  have HPO : Hid (∀ (w1 w2 : World) (gr : Nat), w.heap.size < w1.heap.size → Grid w1.heap.size w2 gr (parRows k) → CellsHi w1.heap.size w2 gr → Pars w.heap.size w2 gr k (spN k + 2)) := fun w1 w2 gr h => Pars.of h1 h
  generalize hq : spN k + 2 = q at *
  have hne : ((q : Int) == 0) = false := by rw [beq_eq_false_iff_ne]; omega
  have hq1 : 2 ≤ q ∧ q ≤ 11 := by omega
  clear hq hsb
  have hwz : w.heap.size < (w.alloc (.cells (rowArr k zV) 5)).heap.size := by simp
  clear HR HZ
  go_enter Try.func20, Try.ntmps20
  go_wp2_with fail
  refine (E0.out _).mono ?_
  rintro e w1 ⟨rfl, rfl⟩
  go_wp2_with fail
  clear hmk E0
  generalize w.alloc (.cells (rowArr k zV) 5) = w1 at *
  refine (E1.out _).mono ?_
  rintro e w2 ⟨gr, rfl, hg2, b2, c2⟩
  have HP2 : Hid (Pars w.heap.size w2 gr k q) := HPO.out w1 w2 gr hwz hg2 c2
  have HR2 : Hid (Row w2 w.heap.size 5 k k (vOf (T 0))) := HR0.out.below b2 hwz
  have HB2 : Hid (Below w.heap.size w w2) := HBA.out.trans (b2.mono (by omega))
  have hw2 : w.heap.size < w2.heap.size := Nat.lt_of_lt_of_le hwz b2.size
  clear hg2 b2 c2 HR0 HBA E1
  go_wp2_with fail
  refine (E2.out _).mono ?_
  rintro e w3 ⟨v, rfl, o3, b3⟩
  obtain ⟨pa, pcap, rfl, hct⟩ := o3.form
  have HP3 : Hid (Pars w.heap.size w3 gr k q) := HP2.out.below b3
  have HA3 : Hid (OfAt w.heap.size w3 w3 k w.heap.size (T 0)) := ⟨HR2.out.below b3 hw2, Fr.refl _ _, .inl rfl⟩
  have HB3 : Hid (Below w.heap.size w w3) := HB2.out.trans (b3.mono (by omega))
  have HC3 : Hid (∀ wr, Fr (fun b => b = w.heap.size) w3 wr → Ct w2.heap.size wr pa pcap P) := fun wr f => hct.of_block f.size fun b hb hlt => f.block b hlt (by show ¬ (b = w.heap.size); omega)
  have hcap := hct.most
  clear o3 b3 HP2 HR2 HB2 E2 hct HPO
  generalize hg0 : w.heap.size = g0 at *
  go_wp2_with fail
  go_loopw [5, 20] (fun v i wr => ∃ j g : Nat, j ≤ P.length ∧ i = .int .i64 j ∧ v = .slice (some ⟨g, 0, none⟩) k k ∧ Hid (OfAt g0 w3 wr k g (T j))) (fun _ i _ => P.length - (intOf i).toNat)
  case atStart => exact ⟨0, g0, by omega, rfl, rfl, HA3⟩
  case round =>
    obtain ⟨j, g, hj, rfl, rfl, HK⟩ := hrel
    by_cases hjl : j < P.length
    · obtain ⟨gp, rfl, hgp, hgpl, hc1, hc2⟩ := (HC3.out wr HK.out.fr).some hjl
      have HPJ := Lib.hid (HPM.out P[j] (List.getElem_mem hjl))
      have HGJ : Hid (P.getD j (0, 0) = P[j]) := getC hjl
      have HSJ := Lib.hid (HST.out j)
      rw [HGJ.out] at HSJ
      generalize P[j] = p at *
      obtain ⟨pt, pc⟩ := p
      simp only at hc1 hc2 HPJ
      have hpc : pc < 256 := HPJ.out.2
      have hpt : pt < k + q := HPJ.out.1
      have HX0 : Hid (OfAt g0 w3 (wr.alloc (.cells #[.int .i64 (pt : Int), .int .u8 (pc : Int)] 47)) k g (T j)) := HK.out.later ((Below.refl _ _).alloc (Nat.le_refl _) _)
      have hca : (wr.alloc (.cells #[.int .i64 (pt : Int), .int .u8 (pc : Int)] 47)).cell? ⟨wr.heap.size, 0, none⟩ = some (.int .i64 (pt : Int)) := by simp
      have hcb : (wr.alloc (.cells #[.int .i64 (pt : Int), .int .u8 (pc : Int)] 47)).cell? ⟨wr.heap.size, 1, none⟩ = some (.int .u8 (pc : Int)) := by simp
      obtain ⟨hTl, hTb⟩ := HRO.out j hj
      have HTB := Lib.hid hTb
      clear hTb
      by_cases hptk : pt < k
      · have hd : (pt : Int) < (k : Int) := by omega
        go_wp2_with fail
        generalize wr.alloc (.cells #[.int .i64 (pt : Int), .int .u8 (pc : Int)] 47) = w4 at *
        have hcr : w4.cell? ⟨g, pt, none⟩ = some (.int .u8 (((T j)[pt] : Nat) : Int)) := by rw [HX0.out.row.cell pt hptk, vOf_eq]
        have hlo : w4.frozen? ⟨g, pt, none⟩ = false := HX0.out.row.loose pt
        have hxb : (T j)[pt] < 256 := HTB.out _ (List.getElem_mem _)
        have HE : Hid (T (j + 1) = (T j).set pt ((T j)[pt] ^^^ pc)) := by
          show _ = _
          rw [HSJ.out]; unfold addPick; rw [if_pos hptk]; simp only []; rw [getD_get (by omega)]
        generalize (T j)[pt] = x at *
        have HS5 : Hid (OfAt g0 w3 (w4.setCell ⟨g, pt, none⟩ (.int .u8 ((x ^^^ pc : Nat) : Int))).drew k g (T (j + 1))) := by
          have := HX0.out.set hTl hptk (x ^^^ pc)
          rw [← HE.out] at this
          exact ⟨this.row, ⟨this.fr.os, this.fr.tape, this.fr.output, this.fr.size, this.fr.block⟩, this.spot⟩
        have i1 : (0 : Int) ≤ (pt : Int) := by omega
        generalize hpb : wr.heap.size = pb at *
        clear hc1 hc2
        refine wp_region_still_tail 12 (by kernel_rfl) (by kernel_rfl) ?_
        simp only [List.take_succ_cons, List.take_zero, List.drop_succ_cons, List.drop_zero]
        repeat (first | still_step | (still_call (add_still _ _ hxb hpc _)))
        refine wpStill_nil ?_
        change wpList _ _ _ _ _ w4.drew
        clear i1
        go_wp2
        go_roundw
        case rel => exact ⟨j + 1, g, by omega, by go_num, rfl, HS5⟩
        case measure => simp [intOf]; omega
      · have hd : ¬ (pt : Int) < (k : Int) := by omega
        have hj2 : pt - k < q := by omega
        go_wp2_with fail
        generalize wr.alloc (.cells #[.int .i64 (pt : Int), .int .u8 (pc : Int)] 47) = w4 at *
        obtain ⟨b, off, c, hcp, hsp⟩ := HP3.out.read h1 HX0.out.fr hj2
        have HSP := Lib.hid hsp
        have hsub : (pt : Int) - (k : Int) = ((pt - k : Nat) : Int) := by omega
        have HE : Hid (T (j + 1) = plusN (T j) (parRow k (pt - k)) pc) := by
          show _ = _
          rw [HSJ.out]; unfold addPick; rw [if_neg hptk]
        have hpl : (parRow k (pt - k)).length = k := parRow_len _ _
        generalize parRow k (pt - k) = m at *
        generalize pt - k = jj at *
        have i1 : (0 : Int) ≤ (jj : Int) := by omega
        have i2 : (jj : Int) < (q : Int) := by omega
        have c1 := cell_up hca
        have c2 := cell_up hcb
        have c3 := cell_up hcp
        generalize hpb : wr.heap.size = pb at *
        clear hc1 hc2 hsp
        refine grow_begin (by kernel_rfl) ?_
        refine grow_take (by kernel_rfl) [0, 1, 2, 3, 4, 5, 6, 7, 8, 9] 5 _ _ (by kernel_rfl) ?_
        simp only [opsAt, List.getElem?_toArray, List.getElem?_cons_succ, List.getElem?_cons_zero]
        repeat (first | go_big_quiet_step (fail) | quiet_step (fail))
        refine wpQuiet_nil ?_
        intro w5 hw5
        have hb5 := below_of_up hw5
        clear c1 c2 c3 i1 i2
        refine grow_one 10 (by kernel_rfl) hw5 (fun K hK => ?_)
        simp only [stepOf, List.getElem?_toArray, List.getElem?_cons_succ, List.getElem?_cons_zero]
        go_simp
        go_at_call 21
        have HAX : Hid (Calls Try.prog 21 #[.slice (some ⟨g, 0, none⟩) k k, .slice (some ⟨b, off, none⟩) k c, .int .u8 (pc : Int)] w5 fun e w' => e = .returned (.tuple #[.slice (some ⟨w5.heap.size, 0, none⟩) k k, .int .i64 0]) ∧ NewTo w5 w' (T (j + 1)) k) := by
          have := axpy_same (some ⟨g, 0, none⟩) (some ⟨b, off, none⟩) k c (T j) m pc w5 (by omega) hpc (by omega) ((HX0.out.row.sl hTl HTB.out (by unfold maxLen; omega)).below hb5) (HSP.out.below hb5)
          rw [hTl, hpl, ← HE.out] at this
          exact this
        refine HAX.out.mono ?_
        rintro e w6 ⟨rfl, hn6⟩
        have hb56 := hn6.below
        refine hK.out _ _ hb56 ?_
        clear hK K HAX
        have hz5 := hb5.size
        have HT6 : Hid (OfAt g0 w3 w6 k w5.heap.size (T (j + 1))) := (HX0.out.later hb5).turn (Nat.le_refl _) hb56 (by have := hn6.row; rw [(HRO.out (j + 1) (by omega)).1] at this; exact this)
        clear hn6 hb56
        generalize w5.heap.size = g5 at *
        refine grow_take (by kernel_rfl) [11, 12, 13, 14] 0 _ _ (by kernel_rfl) ?_
        simp only [opsAt, List.getElem?_toArray, List.getElem?_cons_succ, List.getElem?_cons_zero]
        repeat (first | go_big_quiet_step (fail) | quiet_step (fail))
        refine wpQuiet_nil ?_
        intro w8 hw8
        have HT8 : Hid (OfAt g0 w3 w8 k g5 (T (j + 1))) := HT6.out.later (below_of_up hw8)
        refine grow_done (by kernel_rfl) ?_
        clear hb5 hw5 hw8 HT6
        go_wp2_with fail
        go_roundw
        case rel => exact ⟨j + 1, g5, by omega, by go_num, rfl, HT8⟩
        case measure => simp [intOf]; omega
    · obtain rfl : j = P.length := by omega
      go_wp2_with fail
      go_ret
      have hsz : g0 ≤ w3.heap.size := by have := HB3.out.size; omega
      have hbe := HB3.out.trans (HK.out.fr.below hsz fun i hi e => by have e' : i = g0 := e; omega)
      have hge : g0 ≤ g := by
        rcases HK.out.spot with e | e
        · omega
        · omega
      rw [← hg0] at hbe hge
      exact ⟨g, rfl, hge, HK.out.row, hbe⟩

theorem of_none (k : Int) (id : Nat) (h : k < 1 ∨ 64 < k) (w : World) :
    Calls Try.prog 20 #[.int .i64 k, .int .u32 (id : Int)] w fun e w' => e = .returned (.slice none 0 0) ∧ w = w' := by
  have E0 := Lib.hid (count_none k h)
  go_enter Try.func20, Try.ntmps20
  go_wp2_with (go_at_call 27; refine (E0.out _).mono ?_; rintro e w1 ⟨rfl, rfl⟩)
  go_ret
  exact ⟨rfl, rfl⟩
end Go.Proofs.Ytgfcpneblkleiaa
