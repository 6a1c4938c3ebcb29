/-
  A bench's take, usePivots and useOther.
  A bench's usePivots and useOther.
  A bench's useOther and useOthers.
  A bench's useOthers.
-/
import Derived.Test.YtacncbojplmcjaaMg15
section
namespace Go.Proofs.Ytacncbojplmcjaa
open Go.ChangeShapes Go.WideShapes Go.ChangeAt Go.RowKit Go.Joins
set_option linter.unusedVariables false

/-- What a method of a bench leaves that adds a step. -/
def BnPos (B : Nat) (w : World) (Bb g : Nat) (p : Pd) (S : List (Nat × Nat)) (e : Ending) (w' : World) : Prop :=
  e = .returned (.tuple #[]) ∧ ∃ dv' sv', BnAt B w' Bb g p dv' S sv' ∧ Fb T4 B w w'

set_option maxRecDepth 1000000 in
set_option maxHeartbeats 8000000 in
theorem btak_any (B m n : Nat) (w : World) (Bb g : Nat) (p : Pd) (dv : Value) (S : List (Nat × Nat)) (sv : Value) (hb : BnAt B w Bb g p dv S sv) (ok : Ok m n p) (hm : m ≤ 1000) (hn : n ≤ 256) (hD : p.2.length ≤ 1000000) (hSl : S.length ≤ 1000) (x y : Nat) (hx : x < m) (hy : y < n) :
    Calls Try.prog 35 #[.pointer (some ⟨Bb, 0, none⟩), .agg #[.int .i64 (x : Int), .int .i64 (y : Int)]] w (BnPos B w Bb g (takP p x y) (S ++ [(x, y)])) := by
  have hBsz := hb.size
  have hsv : ∀ b, sv.ownBlock = some b → b < w.heap.size := fun b e => (own_at hb.step e).2.1
  have HB1 : Hid (BnAt B (w.alloc (.cells #[.int .i64 (x : Int), .int .i64 (y : Int)] 68)) Bb g p dv S sv) := hb.below ((Below.refl _ _).alloc (Nat.le_refl _) _)
  have HW1 : Hid (Fb T4 B w (w.alloc (.cells #[.int .i64 (x : Int), .int .i64 (y : Int)] 68))) := (Fb.refl _ _ _).alloc hBsz _
  obtain ⟨wd, hwd⟩ : ∃ wd, wd = (w.alloc (.cells #[.int .i64 (x : Int), .int .i64 (y : Int)] 68)).drew := ⟨_, rfl⟩
  have HBd : Hid (BnAt B wd Bb g p dv S sv) := by rw [hwd]; exact HB1.out.drew
  have HWd : Hid (Fb T4 B w wd) := by rw [hwd]; exact HW1.out.drew
  have e4 : wd.heap[w.heap.size]? = some (.cells #[.int .i64 (x : Int), .int .i64 (y : Int)] 68 (0, 0)) := by rw [hwd]; exact heap_alloc_last w _
  have e0 : wd.cell? ⟨w.heap.size, 0, none⟩ = some (.int .i64 (x : Int)) := by rw [cell_of_block e4]; rfl
  have e1 : wd.cell? ⟨w.heap.size, 1, none⟩ = some (.int .i64 (y : Int)) := by rw [cell_of_block e4]; rfl
  have e2 : w.heap.size < wd.heap.size := (Array.getElem?_eq_some_iff.1 e4).1
  obtain ⟨rb, ro, rc, k1, k2, k3⟩ := HBd.out.num ok hx hy
  have q0 := HBd.out.cells.1
  rw [ok.rect.rows] at q0
  have hblt := HBd.out.lt
  have hglt := HBd.out.grid.lt
  have hcl := ok.rect.at2_lt x y
  have HIN : Hid (Calls Try.prog 46 #[.int .u8 ((at2 p.1 x y : Nat) : Int)] wd fun e w' => e = .returned (.int .u8 ((invN (at2 p.1 x y) : Nat) : Int)) ∧ wd = w') := inv_any _ hcl wd
  have HSC := Lib.hid (bscl_any B m n wd Bb g p dv S sv HBd.out ok hm hn hD x (invN (at2 p.1 x y)) hx (invN_lt hcl))
  have HX : Hid (takP p x y = sclP p x (invN (at2 p.1 x y))) := rfl
  have d0 : ∀ u : KeepW wd (fun _ => False), u.v.cell? ⟨w.heap.size, 0, none⟩ = some (.int .i64 (x : Int)) := fun u => (u.cell e2 (fun h => h)).trans e0
  have d1 : ∀ u : KeepW wd (fun _ => False), u.v.cell? ⟨w.heap.size, 1, none⟩ = some (.int .i64 (y : Int)) := fun u => (u.cell e2 (fun h => h)).trans e1
  have cb : ∀ u : KeepW wd (fun _ => False), u.v.cell? ⟨Bb, 0, none⟩ = some (.slice (some ⟨g, 0, none⟩) m m) := fun u => (u.cell hblt (fun h => h)).trans q0
  have ce : ∀ u : KeepW wd (fun _ => False), u.v.cell? ⟨g, x, none⟩ = some (.slice (some ⟨rb, ro, none⟩) n rc) := fun u => (u.cell hglt (fun h => h)).trans k1
  have cn : ∀ u : KeepW wd (fun _ => False), u.v.cell? ⟨rb, ro + y, none⟩ = some (.int .u8 ((at2 p.1 x y : Nat) : Int)) := fun u => (u.cell k3 (fun h => h)).trans k2
  have hxz : (x : Int) < (m : Int) := by omega
  have hyz : (y : Int) < (n : Int) := by omega
  have HE4 := Lib.hid e4
  have hil := invN_lt hcl
  clear hb HBd HB1 HW1 e0 e1 e2 k1 k2 k3 q0 hcl e4 ok
  generalize invN (at2 p.1 x y) = ic at *
  generalize at2 p.1 x y = c at *
  go_enter Try.func35, Try.ntmps35
  go_wp2_with fail
  refine growK_begin 16 (fun w' => ∃ u : KeepW wd (fun _ => False), w' = u.v) (by kernel_rfl) ?_
  rw [← hwd]
  clear hwd
  refine growK_take (by kernel_rfl) [0, 1, 2, 3, 4, 5, 6, 7, 8, 9, 10, 11, 12, 13, 14] 2 _ _ (by kernel_rfl) _ (keep_class (Fr.refl _ _)) ?_
  simp only [opsAt, List.getElem?_toArray, List.getElem?_cons_succ, List.getElem?_cons_zero]
  repeat (first | go_big_quiet_step (fail) | quiet_step (fail))
  refine wpQuiet_nil ?_
  clear cb ce cn d0 d1
  refine growK_one 15 (by kernel_rfl) (fun K hK => ?_)
  simp only [stepOf, List.getElem?_toArray, List.getElem?_cons_succ, List.getElem?_cons_zero]
  go_simp
  go_at_call 46
  (with_reducible refine HIN.out.mono ?_)
  rintro e w5 ⟨rfl, rfl⟩
  refine hK.out _ _ (keep_class (Fr.refl _ _)) ?_
  clear hK K HIN
  refine growK_last (by kernel_rfl) (by kernel_rfl) (fun K hK => ?_)
  simp only [stepOf, List.getElem?_toArray, List.getElem?_cons_succ, List.getElem?_cons_zero]
  go_simp
  go_at_call 45
  (with_reducible refine HSC.out.mono ?_)
  rintro e w6 ⟨rfl, dv6, hb6, hw6⟩
  refine hK.out _ _ ?_
  clear hK K HSC
  have h64 := hw6.block HE4.out (by decide)
  have HW6 := Lib.hid (HWd.out.trans (hw6.mono t34))
  rw [← HX.out] at hb6
  clear hw6 HWd HE4 HX
  obtain ⟨we, hwe⟩ : ∃ we, we = w6.drew := ⟨_, rfl⟩
  have HB7 : Hid (BnAt B we Bb g (takP p x y) dv6 S sv) := by rw [hwe]; exact hb6.drew
  have HW7 : Hid (Fb T4 B w we) := by rw [hwe]; exact HW6.out.drew
  have h74 : we.heap[w.heap.size]? = some (.cells #[.int .i64 (x : Int), .int .i64 (y : Int)] 68 (0, 0)) := by rw [hwe]; exact h64
  have e0 : we.cell? ⟨w.heap.size, 0, none⟩ = some (.int .i64 (x : Int)) := by rw [cell_of_block h74]; rfl
  have e1 : we.cell? ⟨w.heap.size, 1, none⟩ = some (.int .i64 (y : Int)) := by rw [cell_of_block h74]; rfl
  have e2 : w.heap.size < we.heap.size := (Array.getElem?_eq_some_iff.1 h74).1
  have e3 := HB7.out.cells.2.2
  have hblt7 := HB7.out.lt
  have hsz7 := HB7.out.size
  clear hb6 h64 h74 HW6
  have hs1 : sv.ownBlock ≠ some w.heap.size := fun e => by have := hsv _ e; omega
  have hs2 : sv.ownBlock ≠ some Bb := fun e => (HB7.out.sne e).1 rfl
  have d0 : ∀ u : KeepW we (fun b => sv.ownBlock = some b), u.v.cell? ⟨w.heap.size, 0, none⟩ = some (.int .i64 (x : Int)) := fun u => (u.cell e2 hs1).trans e0
  have d1 : ∀ u : KeepW we (fun b => sv.ownBlock = some b), u.v.cell? ⟨w.heap.size, 1, none⟩ = some (.int .i64 (y : Int)) := fun u => (u.cell e2 hs1).trans e1
  have d2 : ∀ u : KeepW we (fun b => sv.ownBlock = some b), u.v.cell? ⟨Bb, 2, none⟩ = some sv := fun u => (u.cell hblt7 hs2).trans e3
  go_wp2_with fail
  refine growK_begin 10 (fun w' => ∃ u : KeepW we (fun b => sv.ownBlock = some b), w' = u.v) (by kernel_rfl) ?_
  rw [← hwe]
  clear hwe
  refine growK_take (by kernel_rfl) [0, 1, 2, 3, 4, 5] 5 _ _ (by kernel_rfl) _ (keep_class (Fr.refl _ _)) ?_
  simp only [opsAt, List.getElem?_toArray, List.getElem?_cons_succ, List.getElem?_cons_zero]
  repeat (first | go_big_quiet_step (fail) | quiet_step (fail))
  refine wpQuiet_nil ?_
  have HBL : Hid (Below we.heap.size we (we.alloc (.cells #[.int .i64 (x : Int), .int .i64 (y : Int)] 68))) := (Below.refl _ _).alloc (Nat.le_refl _) _
  have HB8 := Lib.hid (HB7.out.below HBL.out)
  refine growK_one 6 (by kernel_rfl) (fun K hK => ?_)
  simp only [stepOf, List.getElem?_toArray, List.getElem?_cons_succ, List.getElem?_cons_zero]
  go_simp
  refine hK.out _ _ (keep_class (Fr.of_below HBL.out)) ?_
  clear hK K
  refine growK_one 7 (by kernel_rfl) (fun K hK => ?_)
  simp only [stepOf, List.getElem?_toArray, List.getElem?_cons_succ, List.getElem?_cons_zero]
  rw [if_pos (by rfl)]
  refine wp_push_v _ (.tmp 25) (.tmp 27) rfl B sv S rfl HB8.out.step we.heap.size rfl x y (by simp) (by simp) HB8.out.size (by omega) ?_
  intro v5 w5 o5 g5 z5
  have F5 : Hid (Fr (fun b => sv.ownBlock = some b) we w5) := (Fr.of_below HBL.out).trans (Fr.of_grown g5.out fun b e => e)
  have HN := Lib.hid (HB8.out.steps o5.out g5.out)
  obtain ⟨c5, q5⟩ := HB8.out.ben_s g5.out
  obtain ⟨aa, cc, rfl⟩ := own_slice o5.out
  refine hK.out _ _ (keep_class F5.out) ?_
  clear hK K
  refine growK_take (by kernel_rfl) [8, 9] 1 _ _ (by kernel_rfl) _ (keep_class F5.out) ?_
  simp only [opsAt, List.getElem?_toArray, List.getElem?_cons_succ, List.getElem?_cons_zero]
  repeat (first | go_big_quiet_step (fail) | quiet_step (fail))
  refine wpQuiet_nil ?_
  refine growK_last (by kernel_rfl) (by kernel_rfl) (fun K hK => ?_)
  simp only [stepOf, List.getElem?_toArray, List.getElem?_cons_succ, List.getElem?_cons_zero]
  go_simp
  refine hK.out _ _ ?_
  clear hK K
  go_wp2_with fail
  go_end0
  have hN := HN.out
  rw [show (S ++ [(x, y)]).length = S.length + 1 by simp] at hN
  exact ⟨rfl, _, _, hN.1, (HW7.out.later hsz7 HBL.out).trans hN.2⟩
end Go.Proofs.Ytacncbojplmcjaa
end

section
namespace Go.Proofs.Ytacncbojplmcjaa
open Go.ChangeShapes Go.WideShapes Go.ChangeAt Go.RowKit Go.Joins
set_option linter.unusedVariables false

/-- Pivots that lie below B. -/
def PvIn (B : Nat) (w : World) (a : Option Addr) (P : List (Nat × Nat)) : Prop := ∀ i, (h : i < P.length) → ∃ g, a = some ⟨g, 0, none⟩ ∧ g < B ∧ w.cell? ⟨g, i * 2, none⟩ = some (.int .i64 ((P[i].1 : Nat) : Int)) ∧ w.cell? ⟨g, i * 2 + 1, none⟩ = some (.int .i64 ((P[i].2 : Nat) : Int))
theorem pv_all {es : Eqz} {n : Nat} {P : List (Nat × Nat)} {H Lf : List Nat} (hE : EqsB es n) (hn : n ≤ 256) (hP : Peeled es n P H Lf) : ∀ k, k ≤ P.length → PvSt es n P k (usedP P k (R0 es n, []))
  | 0, _ => PvSt.start hE
  | k + 1, hk => by
    have h := (pv_all hE hn hP k (by omega)).next hE hn hP (show k < P.length by omega)
    have e : usedP P (k + 1) (R0 es n, []) = takP (canc (P.take k) P[k].1 (P.take k).length (usedP P k (R0 es n, []))) P[k].1 P[k].2 := by
      show takP _ _ _ = _
      rw [getP (show k < P.length by omega)]
    rw [e]
    exact h.1
theorem Peeled.few {es : Eqz} {n : Nat} {P : List (Nat × Nat)} {H Lf : List Nat} (hP : Peeled es n P H Lf) : P.length ≤ n := by
  have := nodup_le n hP.nd fun x hx => (hP.mem x).1 hx
  simp at this
  omega

set_option maxRecDepth 1000000 in
set_option maxHeartbeats 8000000 in
theorem bpiv_any (B : Nat) (es : Eqz) (n : Nat) (P : List (Nat × Nat)) (H Lf : List Nat) (hE : EqsB es n) (hP : Peeled es n P H Lf) (hm : es.length ≤ 1000) (hn : n ≤ 256) (w : World) (Bb g : Nat) (dv sv : Value) (hb : BnAt B w Bb g (R0 es n, []) dv [] sv) (pa : Option Addr) (pc : Nat) (hpv : PvIn B w pa P) :
    Calls Try.prog 20 #[.pointer (some ⟨Bb, 0, none⟩), .slice pa P.length pc] w (BnPos B w Bb g (usedP P P.length (R0 es n, [])) P) := by
  have HA : Hid (∀ k, k ≤ P.length → PvSt es n P k (usedP P k (R0 es n, []))) := pv_all hE hn hP
  have HPV := Lib.hid hpv
  have HPE := Lib.hid hP
  have hPn := hP.few
  have HB0 : Hid (BnAt B w Bb g (usedP P 0 (R0 es n, [])) dv (P.take 0) sv) := by rw [List.take_zero]; exact hb
  have HW0 : Hid (Fb T4 B w w) := Fb.refl _ _ _
  clear hb hpv hP hE
  go_enter Try.func20, Try.ntmps20
  go_wp2_with fail
  go_loopw [8] (fun i wr => ∃ (k : Nat) (dv sv : Value), k ≤ P.length ∧ i = .int .i64 k ∧ Hid (BnAt B wr Bb g (usedP P k (R0 es n, [])) dv (P.take k) sv) ∧ Hid (Fb T4 B w wr)) (fun i _ => P.length - (intOf i).toNat)
  case atStart => exact ⟨0, dv, sv, by omega, rfl, HB0, HW0⟩
  case round =>
    obtain ⟨k, dk, sk, hk, rfl, HB, HW⟩ := hrel
    clear HB0 HW0
    by_cases hlt : k < P.length
    · obtain ⟨pg, rfl, hpg, s0, s1⟩ := HPV.out k hlt
      have t0 := (HW.out.low.cell (p := ⟨pg, k * 2, none⟩) hpg).trans s0
      have t1 := (HW.out.low.cell (p := ⟨pg, k * 2 + 1, none⟩) hpg).trans s1
      have HK := Lib.hid (HA.out k hk)
      have hown := HPE.out.own k hlt
      have hat : P[k].2 < n := (HPE.out.mem _).1 (List.mem_append_left _ (List.mem_append_left _ (List.mem_map.2 ⟨P[k], List.getElem_mem hlt, rfl⟩)))
      have hnot := take_fst HPE.out.once (Nat.le_refl k) hlt
      have htl : (P.take k).length = k := by rw [List.length_take]; omega
      have hfew := HK.out.pst.few
      have hkz : (k : Int) < (P.length : Int) := by omega
      have HTK : Hid (P.take k ++ [P[k]] = P.take (k + 1)) := (List.take_succ_eq_append_getElem hlt).symm
      have HX : Hid (usedP P (k + 1) (R0 es n, []) = takP (canc (P.take k) P[k].1 (P.take k).length (usedP P k (R0 es n, []))) P[k].1 P[k].2) := by
        show _ = _
        show takP _ _ _ = _
        rw [getP hlt]
      have hel := hown.1
      have HCN := Lib.hid (canc_to HK.out.pst.ok HK.out.pst.st hel hnot (P.take k).length (Nat.le_refl _))
      have HOK := Lib.hid HK.out.pst.ok
      have HST := Lib.hid HK.out.pst.st
      have hDk : (usedP P k (R0 es n, [])).2.length ≤ 200000 := by omega
      have hDc : (canc (P.take k) P[k].1 (P.take k).length (usedP P k (R0 es n, []))).2.length ≤ 1000000 := by
        obtain ⟨X, x1, x2⟩ := HCN.out.app
        rw [x1, List.length_append]; omega
      obtain ⟨s, hs⟩ : ∃ s, s = P[k] := ⟨_, rfl⟩
      rw [← hs] at t0 t1 hel hat hnot HTK HX HCN hDc
      clear hs s0 s1 hown hfew HK hpg
      obtain ⟨x, y⟩ := s
      simp only at t0 t1 hel hat hnot HX HCN hDc
      generalize usedP P k (R0 es n, []) = q at *
      obtain ⟨W1, rfl⟩ : ∃ z, z = wr := ⟨_, rfl⟩
      have hBsz := HB.out.size
      have HB1 : Hid (BnAt B (W1.alloc (.cells #[.int .i64 (x : Int), .int .i64 (y : Int)] 68)) Bb g q dk (P.take k) sk) := HB.out.below ((Below.refl _ _).alloc (Nat.le_refl _) _)
      have HW1 : Hid (Fb T4 B w (W1.alloc (.cells #[.int .i64 (x : Int), .int .i64 (y : Int)] 68))) := HW.out.alloc hBsz _
      have e4 : (W1.alloc (.cells #[.int .i64 (x : Int), .int .i64 (y : Int)] 68)).heap[W1.heap.size]? = some (.cells #[.int .i64 (x : Int), .int .i64 (y : Int)] 68 (0, 0)) := heap_alloc_last W1 _
      have HE4 := Lib.hid e4
      have HCA := Lib.hid (bcan_any B es.length n _ Bb g q dk (P.take k) sk HB1.out HOK.out HST.out hm hn hDk x hel hnot)
      clear HB HW e4
      go_wp2_with fail
      (with_reducible refine HCA.out.mono ?_)
      rintro e w5 ⟨rfl, dv5, hb5, hw5⟩
      have h64 := hw5.block HE4.out (by decide)
      have e0 : w5.cell? ⟨W1.heap.size, 0, none⟩ = some (.int .i64 (x : Int)) := by rw [cell_of_block h64]; rfl
      have e1 : w5.cell? ⟨W1.heap.size, 1, none⟩ = some (.int .i64 (y : Int)) := by rw [cell_of_block h64]; rfl
      have HTA := Lib.hid (btak_any B es.length n w5 Bb g _ dv5 (P.take k) sk hb5 HCN.out.ok hm hn hDc (by omega) x y hel hat)
      have HW5 := Lib.hid (HW1.out.trans (hw5.mono t34))
      rw [HTK.out, ← HX.out] at HTA
      clear hb5 hw5 h64 HCA HE4 HCN HB1 HW1 HOK HST
      go_wp2_with fail
      (with_reducible refine HTA.out.mono ?_)
      rintro e w6 ⟨rfl, dv6, sv6, hb6, hw6⟩
      have HB6 := Lib.hid hb6
      have HW6 := Lib.hid (HW5.out.trans hw6)
      clear hb6 hw6 HTA HW5 HX HTK
      go_wp2_with fail
      go_roundw
      case rel => exact ⟨k + 1, dv6, sv6, by omega, by go_num, HB6, HW6⟩
      case measure => simp [intOf]; omega
    · obtain rfl : k = P.length := by omega
      go_wp2_with fail
      go_end0
      have h := HB.out
      rw [List.take_length] at h
      exact ⟨rfl, dk, sk, h, HW.out⟩

theorem notZero_svc (y : Nat) (w : World) : Calls Try.prog 48 #[.int .u8 (y : Int)] w fun e w' => e = .returned (.bool ((y : Int) != 0)) ∧ w = w' := by
  go_enter Try.func48, Try.ntmps48
  go_wp2
  go_ret
  exact ⟨rfl, rfl⟩

set_option maxHeartbeats 400000 in
theorem idx_none (a : Option Addr) (cap : Nat) (l : List Nat) (w : World) (hs : Sl w a cap l) (hz : ∀ j, j < l.length → l.getD j 0 = 0) :
    Calls Try.prog 47 #[.slice a l.length cap, .func (.func 48) #[] #[]] w fun e w' => e = .returned (.int .i64 (-1)) ∧ w = w' := by
  have HS := Lib.hid hs
  have HZ := Lib.hid hz
  have hlm := hs.lt
  clear hs hz
  go_enter Try.func47, Try.ntmps47
  go_wp2_with fail
  go_loop [8] (fun i => ∃ k : Nat, k ≤ l.length ∧ i = .int .i64 k) (fun i => l.length - (intOf i).toNat)
  case atStart => exact ⟨0, by omega, rfl⟩
  case round =>
    obtain ⟨k, hk, rfl⟩ := hrel
    by_cases hlt : k < l.length
    · obtain ⟨b, off, rfl, hb⟩ := HS.out.some hlt
      have hck := hb k hlt
      have h0 : l[k] = 0 := by rw [← getD_get hlt]; exact HZ.out k hlt
      rw [h0] at hck
      have hn := notZero_svc 0
      have he : (((0 : Nat) : Int) != 0) = false := rfl
      rw [he] at hn
      clear hb h0
      go_wp2_with fail
      refine (hn _).mono ?_
      rintro e w' ⟨rfl, rfl⟩
      go_wp2_with fail
      go_round
      case rel => exact ⟨k + 1, by omega, by go_num⟩
      case measure => simp [intOf]; omega
    · obtain rfl : k = l.length := by omega
      go_wp2_with fail
      go_ret
      exact ⟨rfl, rfl⟩

set_option maxHeartbeats 400000 in
theorem idx_some (a : Option Addr) (cap : Nat) (l : List Nat) (p : Nat) (w : World) (hs : Sl w a cap l) (hp : p < l.length) (hne : l.getD p 0 ≠ 0) (hz : ∀ j, j < p → l.getD j 0 = 0) :
    Calls Try.prog 47 #[.slice a l.length cap, .func (.func 48) #[] #[]] w fun e w' => e = .returned (.int .i64 (p : Int)) ∧ w = w' := by
  have HS := Lib.hid hs
  have HZ := Lib.hid hz
  have HN := Lib.hid hne
  have hlm := hs.lt
  clear hs hz hne
  go_enter Try.func47, Try.ntmps47
  go_wp2_with fail
  go_loop [8] (fun i => ∃ k : Nat, k ≤ p ∧ i = .int .i64 k) (fun i => l.length - (intOf i).toNat)
  case atStart => exact ⟨0, by omega, rfl⟩
  case round =>
    obtain ⟨k, hk, rfl⟩ := hrel
    have hlt : k < l.length := by omega
    obtain ⟨b, off, rfl, hb⟩ := HS.out.some hlt
    have hck := hb k hlt
    by_cases e : k = p
    · subst e
      have h0 : l[k] ≠ 0 := by rw [← getD_get hlt]; exact HN.out
      generalize l[k] = y at *
      have hn := notZero_svc y
      have he : ((y : Int) != 0) = true := by simp; omega
      rw [he] at hn
      clear hb h0 he
      go_wp2_with fail
      refine (hn _).mono ?_
      rintro e w' ⟨rfl, rfl⟩
      go_wp2_with fail
      go_ret
      exact ⟨rfl, rfl⟩
    · have h0 : l[k] = 0 := by rw [← getD_get hlt]; exact HZ.out k (by omega)
      rw [h0] at hck
      have hn := notZero_svc 0
      have he : (((0 : Nat) : Int) != 0) = false := rfl
      rw [he] at hn
      clear hb h0
      go_wp2_with fail
      refine (hn _).mono ?_
      rintro e' w' ⟨rfl, rfl⟩
      go_wp2_with fail
      go_round
      case rel => exact ⟨k + 1, by omega, by go_num⟩
      case measure => simp [intOf]; omega
end Go.Proofs.Ytacncbojplmcjaa
end

section
namespace Go.Proofs.Ytacncbojplmcjaa
open Go.ChangeShapes Go.WideShapes Go.ChangeAt Go.RowKit Go.Joins
set_option linter.unusedVariables false

/-- What becomes of one of the others. -/
def Oth (n : Nat) (p : Pd) (S : List (Nat × Nat)) (eq : Nat) (p' : Pd) (S' : List (Nat × Nat)) : Prop :=
  (vrow (canc S eq S.length p).1 eq = V.zero ∧ p' = ((canc S eq S.length p).1, p.2) ∧ S' = S) ∨
  ∃ a, a < n ∧ vrow (canc S eq S.length p).1 eq a ≠ GF.zero ∧ p' = takP (canc S eq S.length p) eq a ∧ S' = S ++ [(eq, a)]
theorem OwnD.parts {B : Nat} {w : World} {a : Option Addr} {c : Nat} {D : Dz} (h : OwnD B w (.slice a D.length c) D) : (a = none ∧ D = [] ∧ c = 0) ∨ ∃ g, a = some ⟨g, 0, none⟩ ∧ D.length ≤ c ∧ c ≤ maxLen := by
  rcases h.2 with ⟨h1, h2⟩ | ⟨g, cap, cur, h1, h2, h3, h4, h5, h6, h7⟩
  · injection h1 with e1 e2 e3
    exact .inl ⟨e1, List.length_eq_zero_iff.1 h2, e3⟩
  · injection h1 with e1 e2 e3
    subst e3
    exact .inr ⟨g, e1, h4, h5⟩

set_option maxRecDepth 1000000 in
set_option maxHeartbeats 8000000 in
theorem both_any (B m n : Nat) (w : World) (Bb g : Nat) (p : Pd) (dv : Value) (S : List (Nat × Nat)) (sv : Value) (hb : BnAt B w Bb g p dv S sv) (ok : Ok m n p) (hs : Stp m n p.1 S) (hm : m ≤ 1000) (hn : n ≤ 256) (hD : p.2.length ≤ 100000) (eq : Nat) (he : eq < m) (hne : eq ∉ S.map Prod.fst) :
    Calls Try.prog 36 #[.pointer (some ⟨Bb, 0, none⟩), .int .i64 (eq : Int)] w fun e w' => e = .returned (.tuple #[]) ∧ ∃ p' S' dv' sv', BnAt B w' Bb g p' dv' S' sv' ∧ Fb T4 B w w' ∧ Oth n p S eq p' S' := by
  have HCA := Lib.hid (bcan_any B m n w Bb g p dv S sv hb ok hs hm hn (by omega) eq he hne)
  have HCN := Lib.hid (canc_to ok hs he hne S.length (Nat.le_refl _))
  have hSn := hs.few
  obtain ⟨X, hX1, hX2⟩ := HCN.out.app
  obtain ⟨ad, cd, rfl⟩ := own_slice hb.deed
  have q1 := hb.cells.2.1
  have HOTH : Hid (∀ p' S', Oth n p S eq p' S' → Oth n p S eq p' S') := fun _ _ h => h
  unfold Oth at HOTH
  obtain ⟨q, hq⟩ : ∃ q, q = canc S eq S.length p := ⟨_, rfl⟩
  have HOT : Hid (∀ p' S', ((vrow q.1 eq = V.zero ∧ p' = (q.1, p.2) ∧ S' = S) ∨ ∃ a, a < n ∧ vrow q.1 eq a ≠ GF.zero ∧ p' = takP q eq a ∧ S' = S ++ [(eq, a)]) → Oth n p S eq p' S') := fun p' S' h => by
    unfold Oth; rw [← hq]; exact h
  rw [← hq] at HCA HCN hX1
  clear hb ok hs hne HOTH hq
  have HOK := Lib.hid HCN.out.ok
  have hep : eq < q.1.length := by rw [HOK.out.rect.rows]; exact he
  have hql : q.1[eq].length = n := HOK.out.rect.len _ (List.getElem_mem hep)
  have hqb : IsByte q.1[eq] := HOK.out.rect.byte _ (List.getElem_mem hep)
  have hvq : ∀ j, vrow q.1 eq j = GF.zero ↔ q.1[eq].getD j 0 = 0 := fun j => by
    unfold vrow
    rw [getR hep]
    exact toV_zero hqb
  have HVQ := Lib.hid hvq
  have HQ2 : Hid (q = (q.1, p.2 ++ X)) := by show _ = _; rw [← hX1]
  have hD2 : q.2.length ≤ 1000000 := by rw [hX1, List.length_append]; omega
  have hez : (eq : Int) < (m : Int) := by omega
  clear HCN hX1
  go_enter Try.func36, Try.ntmps36
  go_wp2_with fail
  (with_reducible refine HCA.out.mono ?_)
  rintro e w5 ⟨rfl, dv5, hb5, hw5⟩
  obtain ⟨a1, c1, k1, r1⟩ := hb5.grid.cell hep
  rw [hql] at k1
  have q0 := hb5.cells.1
  rw [HOK.out.rect.rows] at q0
  by_cases hz : ∃ j, j < n ∧ vrow q.1 eq j ≠ GF.zero
  · obtain ⟨a, ha, hl1, hl2⟩ := lead_below n hz
    have HIX := idx_some a1 c1 q.1[eq] a w5 r1.sl (by omega) (fun e => hl1 ((HVQ.out a).2 e)) (fun j hj => (HVQ.out j).1 (hl2 j hj))
    rw [hql] at HIX
    have HI := Lib.hid HIX
    have HTA := Lib.hid (btak_any B m n w5 Bb g q dv5 S sv hb5 HOK.out hm hn hD2 (by omega) eq a he ha)
    have HW5 := Lib.hid (hw5.mono t34)
    have HO := Lib.hid (HOT.out _ _ (.inr ⟨a, ha, hl1, rfl, rfl⟩))
    have hneg : ((a : Int) < 0) = False := by simp
    have hneg2 : decide ((a : Int) < 0) = false := by simp
    clear hb5 hw5 HIX r1 HCA hl1 hl2 hz hvq HVQ HOT hqb
    go_wp2_with fail
    (with_reducible refine HI.out.mono ?_)
    rintro e w6 ⟨rfl, rfl⟩
    go_wp2_with fail
    (with_reducible refine HTA.out.mono ?_)
    rintro e w7 ⟨rfl, dv7, sv7, hb7, hw7⟩
    have HB7 := Lib.hid hb7
    have HW7 := Lib.hid (HW5.out.trans hw7)
    clear hb7 hw7 HTA HW5
    go_wp2_with fail
    go_end0
    exact ⟨rfl, _, _, dv7, sv7, HB7.out, HW7.out, HO.out⟩
  · have hall : ∀ j, j < n → vrow q.1 eq j = GF.zero := fun j hj => by
      rcases GF.em (vrow q.1 eq j) with e | e
      · exact e
      · exact absurd ⟨j, hj, e⟩ hz
    have hzero : vrow q.1 eq = V.zero := funext fun j => by
      by_cases hj : j < n
      · exact hall j hj
      · exact toV_high (by rw [(HOK.out.rect.get he).1]; omega)
    have HIX := idx_none a1 c1 q.1[eq] w5 r1.sl (fun j hj => (HVQ.out j).1 (hall j (by omega)))
    rw [hql] at HIX
    have HI := Lib.hid HIX
    have HO := Lib.hid (HOT.out _ _ (.inl ⟨hzero, rfl, rfl⟩))
    obtain ⟨ae, ce, rfl⟩ := own_slice hb5.deed
    have hpd : (p.2 ++ X).length = p.2.length + X.length := List.length_append
    have hb6 : BnAt B w5 Bb g (q.1, p.2 ++ X) (.slice ae (p.2 ++ X).length ce) S sv := by
      have h := hb5
      rw [HQ2.out] at h
      exact h
    have hpar := hb6.deed.parts
    have hcut := hb6.cut
    have q15 := hb6.cells.2.1
    have z15 := hb6.loose 1
    have HCUT := Lib.hid hcut
    have HW5 := Lib.hid (hw5.mono t34)
    rw [hpd] at q15
    have hq2l : q.2.length = p.2.length + X.length := by
      have h := congrArg (fun z : Pd => z.2.length) HQ2.out
      simpa using h
    clear hb5 hw5 hb6 hcut HIX r1 HCA hz hvq HVQ HOT hall hzero HQ2 hqb
    rcases hpar with ⟨rfl, hp0, rfl⟩ | ⟨dg, rfl, hc1, hc2⟩
    · have h1 : p.2.length = 0 := by have := congrArg List.length hp0; simp at this; simp [this.1]
      have h2 : X.length = 0 := by have := congrArg List.length hp0; simp at this; simp [this.2]
      rw [h1, h2] at q15
      rw [h1] at HCUT
      simp only [h1]
      clear hp0 hpd hq2l
      go_wp2_with fail
      (with_reducible refine HI.out.mono ?_)
      rintro e w6 ⟨rfl, rfl⟩
      go_wp2_with fail
      refine bodyPost_ret (results_none rfl _ _ _) rfl ?_
      exact ⟨rfl, _, _, _, sv, HCUT.out.1, HW5.out.trans (HCUT.out.2.mono t34), HO.out⟩
    · rw [hpd] at hc1
      have hcc : (p.2.length : Int) ≤ (ce : Int) := by omega
      unfold maxLen at hc2
      have hc3 : ce ≤ 9223372036854775807 := by omega
      clear hpd hq2l
      go_wp2_with fail
      (with_reducible refine HI.out.mono ?_)
      rintro e w6 ⟨rfl, rfl⟩
      go_wp2_with fail
      refine bodyPost_ret (results_none rfl _ _ _) rfl ?_
      exact ⟨rfl, _, _, _, sv, HCUT.out.1, HW5.out.trans (HCUT.out.2.mono t34), HO.out⟩
end Go.Proofs.Ytacncbojplmcjaa
end

section
namespace Go.Proofs.Ytacncbojplmcjaa
open Go.ChangeShapes Go.WideShapes Go.ChangeAt Go.RowKit Go.Joins
set_option linter.unusedVariables false

def usedB (S : List (Nat × Nat)) (k i : Nat) : Bool := decide (i ∈ (S.take k).map Prod.fst)
theorem usedB_next {S : List (Nat × Nat)} {k : Nat} (h : k < S.length) (i : Nat) : bV (usedB S (k + 1)) i = if i = S[k].1 then .bool true else bV (usedB S k) i := by
  unfold bV usedB
  rw [List.take_succ_eq_append_getElem h, List.map_append]
  by_cases e : i = S[k].1
  · rw [if_pos e]; simp [e]
  · rw [if_neg e]; simp [e]
theorem BnAt.aside {B Bb g : Nat} {w w' : World} {p : Pd} {dv sv : Value} {S : List (Nat × Nat)} (h : BnAt B w Bb g p dv S sv) {ub : Nat} (hu : B ≤ ub) {cs : Array Value} {r : Nat × Nat} (hc : w.heap[ub]? = some (.cells cs 4 r)) (k : Fr (fun b => b = ub) w w') : BnAt B w' Bb g p dv S sv := by
  have n1 : Bb ≠ ub := fun e => by
    have := h.ben
    rw [e, hc] at this
    injection this with this
    injection this with _ this _
    exact absurd this (by decide)
  have n2 : g ≠ ub := fun e => by
    obtain ⟨cs', k'⟩ := h.grid.kind
    rw [e, hc] at k'
    injection k' with k'
    injection k' with _ k' _
    exact absurd k' (by decide)
  have hk : Keep B w w' := ⟨k.os, k.tape, k.output, k.size, fun b hb hh => k.block b hb fun e => by
    subst e
    rcases hh with hh | ⟨cs', r', e⟩
    · omega
    · rw [hc] at e
      injection e with e
      injection e with _ e _
      exact absurd e (by decide)⟩
  refine ⟨h.lo, (k.block _ h.lt n1).trans h.ben, h.grid.kept hk (k.block _ h.grid.lt n2), own_kept h.deed fun b hb => k.block b (own_at h.deed hb).2.1 fun e => ?_, own_kept h.step fun b hb => k.block b (own_at h.step hb).2.1 fun e => ?_⟩
  · subst e; exact absurd (own_kind h.deed hb hc) (by decide)
  · subst e; exact absurd (own_kind h.step hb hc) (by decide)
/-- What elimination has made of equations. -/
def Elim (es : Eqz) (n : Nat) (p : Pd) (S : List (Nat × Nat)) : Prop := (∃ L, Pst es n p S L) ∧ rkE es n = S.length
theorem OtSt.oth {es : Eqz} {n : Nat} {S0 S : List (Nat × Nat)} {k : Nat} {p p' : Pd} {S' : List (Nat × Nat)} (hE : EqsB es n) (hn : n ≤ 256) (h : OtSt es n S0 k p S) (hkm : k < es.length) (hk : k ∉ S0.map Prod.fst) (ho : Oth n p S k p' S') : OtSt es n S0 (k + 1) p' S' := by
  rcases ho with ⟨h1, rfl, rfl⟩ | ⟨a, h1, h2, rfl, rfl⟩
  · exact h.drop hE hkm hk h1
  · exact h.keep hE hn hkm hk h1 h2

set_option maxRecDepth 1000000 in
set_option maxHeartbeats 8000000 in
theorem boths_any (B : Nat) (es : Eqz) (n : Nat) (S0 : List (Nat × Nat)) (Lf : List Nat) (hE : EqsB es n) (hm : es.length ≤ 1000) (hn : n ≤ 256) (w : World) (Bb g : Nat) (p0 : Pd) (dv sv : Value) (hb : BnAt B w Bb g p0 dv S0 sv) (ho : OtSt es n S0 0 p0 S0)
    (hd : Lf.Nodup) (hl : ∀ x ∈ Lf, x < n) (hz : ∀ x ∈ Lf, ∀ e, x ∉ pl (es.getD e [])) :
    Calls Try.prog 21 #[.pointer (some ⟨Bb, 0, none⟩), .int .i64 ((n : Int) - (Lf.length : Int))] w fun e w' => e = .returned (.tuple #[]) ∧ ∃ p S dv' sv', BnAt B w' Bb g p dv' S sv' ∧ Fb T4 B w w' ∧ Elim es n p S := by
  have hLf := nodup_le n hd hl
  obtain ⟨q, hq⟩ : ∃ q, q + Lf.length = n := ⟨n - Lf.length, by omega⟩
  have hqz : (n : Int) - (Lf.length : Int) = (q : Int) := by omega
  rw [hqz]
  obtain ⟨sa, sc, rfl⟩ := own_slice hb.step
  have hmk := make_bools es.length (by omega)
  have HE := Lib.hid hE
  have HD : Hid (Lf.Nodup ∧ (∀ x ∈ Lf, x < n) ∧ (∀ x ∈ Lf, ∀ e, x ∉ pl (es.getD e [])) ∧ q + Lf.length = n) := ⟨hd, hl, hz, hq⟩
  have HO0 := Lib.hid ho
  have hrows := ho.pst.ok.rect.rows
  have hS0 := ho.pst.st.few
  have hlow0 := Lib.hid ho.pst.st.low
  have q0 := hb.cells.1
  have q2 := hb.cells.2.2
  rw [hrows] at q0
  have hBsz := hb.size
  have HB1 : Hid (BnAt B (w.alloc (.cells (rowArr es.length (bV fun _ => false)) 4)) Bb g p0 dv S0 (.slice sa S0.length sc)) := hb.below ((Below.refl _ _).alloc (Nat.le_refl _) _)
  have HW1 : Hid (Fb T4 B w (w.alloc (.cells (rowArr es.length (bV fun _ => false)) 4))) := (Fb.refl _ _ _).alloc hBsz _
  have HR1 : Hid (Row (w.alloc (.cells (rowArr es.length (bV fun _ => false)) 4)) w.heap.size 4 es.length es.length (bV (usedB S0 0))) := by
    have h : (fun _ : Nat => false) = usedB S0 0 := by funext i; simp [usedB]
    rw [h]
    exact Row.new_whole w _ _ _ _ _ rfl rfl
  have hqe : ∃ k1, HB1.out.cells.2.2 = k1 := ⟨_, rfl⟩
  have q21 := HB1.out.cells.2.2
  clear hb ho hE hd hl hz hq hqz hqe
  go_enter Try.func21, Try.ntmps21
  go_wp2_with fail
  clear q21 q0 q2 hmk
  obtain ⟨ub, hub⟩ : ∃ ub, ub = w.heap.size := ⟨_, rfl⟩
  rw [← hub] at HR1 ⊢
  have hBu : B ≤ ub := by omega
  obtain ⟨W1, hW1⟩ : ∃ W1, W1 = w.alloc (.cells (rowArr es.length (bV fun _ => false)) 4) := ⟨_, rfl⟩
  rw [← hW1] at HB1 HW1 HR1 ⊢
  have HUB : Hid (Below w.heap.size w W1 ∧ ub = w.heap.size) := ⟨by rw [hW1]; exact (Below.refl _ _).alloc (Nat.le_refl _) _, hub⟩
  have hBw : B ≤ w.heap.size := hBsz
  clear hW1 hub hBsz
  have HF0 : Hid (Fr (fun b => b = ub) W1 W1) := Fr.refl _ _
  go_loopw [20] (fun i wr => ∃ k : Nat, k ≤ S0.length ∧ i = .int .i64 k ∧ Hid (Row wr ub 4 es.length es.length (bV (usedB S0 k))) ∧ Hid (Fr (fun b => b = ub) W1 wr)) (fun i _ => S0.length - (intOf i).toNat)
  case atStart => exact ⟨0, by omega, rfl, HR1, HF0⟩
  case round =>
    obtain ⟨k, hk, rfl, HR, HF⟩ := hrel
    clear HF0
    have HB : Hid (BnAt B wr Bb g p0 dv S0 (.slice sa S0.length sc)) := by
      obtain ⟨cs, r1, _, _⟩ := HR1.out
      exact HB1.out.aside hBu r1 HF.out
    by_cases hlt : k < S0.length
    · obtain ⟨sg, rfl, hBs, hsl, s0, s1⟩ := HB.out.step.cells hlt
      have hlow := (hlow0.out _ (List.getElem_mem hlt)).1
      have hkz : (k : Int) < (S0.length : Int) := by omega
      have HNX := Lib.hid (usedB_next hlt)
      obtain ⟨x, hx⟩ : ∃ x, x = S0[k].1 := ⟨_, rfl⟩
      obtain ⟨y, hy⟩ : ∃ y, y = S0[k].2 := ⟨_, rfl⟩
      rw [← hx] at s0 hlow HNX
      rw [← hy] at s1
      clear hx hy
      have hxz : (x : Int) < (es.length : Int) := by omega
      obtain ⟨W3, rfl⟩ : ∃ z, z = wr := ⟨_, rfl⟩
      obtain ⟨u0, c0⟩ := HR.out.has x hlow
      have z0 := HR.out.loose x
      have hul := HR.out.lt
      have HR3 : Hid (Row ((W3.setCell ⟨ub, x, none⟩ (.bool true)).alloc (.cells #[.int .i64 (x : Int), .int .i64 (y : Int)] 68)) ub 4 es.length es.length (bV (usedB S0 (k + 1)))) := (HR.out.set_eq x hlow (.bool true) fun j hj => HNX.out j).alloc _
      have HF3 : Hid (Fr (fun b => b = ub) W1 ((W3.setCell ⟨ub, x, none⟩ (.bool true)).alloc (.cells #[.int .i64 (x : Int), .int .i64 (y : Int)] 68))) := (HF.out.set (p := ⟨ub, x, none⟩) (fun _ => rfl) _).later ((Below.refl _ _).alloc (Nat.le_refl _) _)
      clear HR HF HB HNX
      go_wp2_with fail
      go_roundw
      case rel => exact ⟨k + 1, by omega, by go_num, HR3, HF3⟩
      case measure => simp [intOf]; omega
    · obtain rfl : k = S0.length := by omega
      have HW2 : Hid (Fb T4 B w wr) := Fb.of_below hBw (HUB.out.1.trans (HF.out.below HUB.out.1.size fun b hb e => by have := HUB.out.2; omega))
      clear HW1 HUB hBw HF HB1 HR1
      obtain ⟨W2, rfl⟩ : ∃ z, z = wr := ⟨_, rfl⟩
      have HWS : Hid (Fb T4 B W2 W2) := Fb.refl _ _ _
      have HRW := Lib.hid HR.out.whole
      have HUS : Hid (∀ i, usedB S0 S0.length i = decide (i ∈ S0.map Prod.fst)) := fun i => by unfold usedB; rw [List.take_length]
      clear HR
      go_wp2_with fail
      go_loopw [31] (fun i wr => ∃ (k : Nat) (p : Pd) (S : List (Nat × Nat)) (dv sv : Value), k ≤ es.length ∧ i = .int .i64 k ∧ Hid (BnAt B wr Bb g p dv S sv) ∧ Hid (Fb T4 B W2 wr) ∧ Hid (OtSt es n S0 k p S)) (fun i _ => es.length - (intOf i).toNat)
      case atStart => exact ⟨0, p0, S0, dv, _, by omega, rfl, HB, HWS, HO0⟩
      case round =>
        obtain ⟨k, p, S, dk, sk, hk, rfl, HBk, HWk, HO⟩ := hrel
        clear HWS HO0 HB
        by_cases hlt : k < es.length
        · obtain ⟨s2, sc2, rfl⟩ := own_slice HBk.out.step
          have c3 := HBk.out.cells.2.2
          have hkz : (k : Int) < (es.length : Int) := by omega
          have hrow : Row wr ub 4 es.length es.length (bV (usedB S0 S0.length)) := Row.of_whole (HWk.out.block HRW.out (by decide))
          have cu := hrow.cell k hlt
          unfold bV at cu
          rw [HUS.out k] at cu
          have hSn := HO.out.pst.st.few
          have hfew := HO.out.pst.few
          clear hrow
          by_cases hq : S.length = q
          · have hqq : ((S.length : Int) == (q : Int)) = true := by rw [hq]; simp
            have HEL : Hid (Elim es n p S) := ⟨⟨_, HO.out.pst⟩, HO.out.rank_most HE.out HD.out.1 HD.out.2.1 HD.out.2.2.1 (by have := HD.out.2.2.2; omega)⟩
            rw [hq] at c3
            clear hqq HO hq
            go_wp2_with fail
            refine bodyPost_ret (results_none rfl _ _ _) rfl ?_
            exact ⟨rfl, p, S, dk, _, HBk.out, HW2.out.trans HWk.out, HEL.out⟩
          · have hqq : ((S.length : Int) == (q : Int)) = false := by simp; omega
            by_cases hin : k ∈ S0.map Prod.fst
            · rw [decide_eq_true hin] at cu
              have HON := Lib.hid (HO.out.skip hin)
              clear HO hin hq
              go_wp2_with fail
              go_roundw
              case rel => exact ⟨k + 1, p, S, dk, _, by omega, by go_num, HBk, HWk, HON⟩
              case measure => simp [intOf]; omega
            · rw [decide_eq_false hin] at cu
              have hnew := HO.out.new hin
              have HOT := Lib.hid (both_any B es.length n wr Bb g p dk S _ HBk.out HO.out.pst.ok HO.out.pst.st hm hn (by omega) k hlt hnew)
              have HNX : Hid (∀ p' S', Oth n p S k p' S' → OtSt es n S0 (k + 1) p' S') := fun p' S' h => HO.out.oth HE.out hn hlt hin h
              clear HO hin hnew hq
              go_wp2_with fail
              (with_reducible refine HOT.out.mono ?_)
              rintro e w7 ⟨rfl, p7, S7, dv7, sv7, hb7, hw7, ho7⟩
              have HB7 := Lib.hid hb7
              have HW7 := Lib.hid (HWk.out.trans hw7)
              have HON := Lib.hid (HNX.out _ _ ho7)
              clear hb7 hw7 ho7 HOT HNX HWk HBk
              go_wp2_with fail
              go_roundw
              case rel => exact ⟨k + 1, p7, S7, dv7, sv7, by omega, by go_num, HB7, HW7, HON⟩
              case measure => simp [intOf]; omega
        · obtain rfl : k = es.length := by omega
          have HEL : Hid (Elim es n p S) := ⟨⟨_, HO.out.pst⟩, HO.out.rank_all HE.out⟩
          go_wp2_with fail
          go_end0
          exact ⟨rfl, p, S, dk, sk, HBk.out, HW2.out.trans HWk.out, HEL.out⟩
end Go.Proofs.Ytacncbojplmcjaa
end
