/-
  Package packet: read.
-/
import Derived.Test.YtfgaohilpbocbaaGreatDoorMm12
section
namespace Go.Proofs.YtfgaohilpbocbaaGreatDoor
open Go.ChangeShapes Go.WideShapes Go.ChangeAt Go.RowKit Go.Joins
set_option linter.unusedVariables false

set_option maxRecDepth 100000 in
theorem symbolic_any (n : Nat) (w : World) (hn : n ≤ 1000000) :
    Calls Tryz.prog 126 #[.int .i64 (n : Int)] w fun e w' => e = .returned (.bool (decide (1 ≤ n ∧ n ≤ 256))) ∧ w = w' := by
  have mixed : Tryz.prog.follows .mixedOrders = true := by kernel_rfl
  by_cases h : 1 ≤ n
  · have d1 : decide ((1 : Int) ≤ (n : Int)) = true := decide_eq_true (by omega)
    by_cases h2 : n ≤ 256
    · have d2 : decide ((n : Int) ≤ 256) = true := decide_eq_true (by omega)
      have HR : Hid (decide (1 ≤ n ∧ n ≤ 256) = true) := decide_eq_true ⟨h, h2⟩
      go_enter Tryz.func126, Tryz.ntmps126
      go_wp2_with fail
      go_ret
      exact ⟨ret_bool HR.out.symm, rfl⟩
    · have d2 : decide ((n : Int) ≤ 256) = false := decide_eq_false (by omega)
      have HR : Hid (decide (1 ≤ n ∧ n ≤ 256) = false) := decide_eq_false fun k => h2 k.2
      go_enter Tryz.func126, Tryz.ntmps126
      go_wp2_with fail
      go_ret
      exact ⟨ret_bool HR.out.symm, rfl⟩
  · have d1 : decide ((1 : Int) ≤ (n : Int)) = false := decide_eq_false (by omega)
    have HR : Hid (decide (1 ≤ n ∧ n ≤ 256) = false) := decide_eq_false fun k => h k.1
    go_enter Tryz.func126, Tryz.ntmps126
    go_wp2_with fail
    go_ret
    exact ⟨ret_bool HR.out.symm, rfl⟩

/-- What read answers. -/
def ReadPost (X : Nat → Prop) (w : World) (P : Nat) (set l : List Nat) (e : Ending) (w' : World) : Prop :=
  e = .returned (.bool (rdN set l).isSome) ∧ Fr (fun j => X j ∨ j = P) w w' ∧ ∀ q, rdN set l = some q → ∃ sa sc da dc, Row w' P 100 51 51 (pkV q sa sc da dc) ∧ PkAt w' q sa sc da dc ∧ (∀ p, sa = some p → w.heap.size ≤ p.block) ∧ ∀ p, da = some p → w.heap.size ≤ p.block
theorem readPost_none {X : Nat → Prop} {w w' : World} {P : Nat} {set l : List Nat} (h : rdN set l = none) (k : Fr (fun j => X j ∨ j = P) w w') : ReadPost X w P set l (.returned (.bool false)) w' := ⟨by rw [h]; rfl, k, fun q hq => by rw [h] at hq; cases hq⟩
theorem readPost_some {X : Nat → Prop} {w w' : World} {P : Nat} {set l : List Nat} {q : Pk} {sa : Option Addr} {sc : Nat} {da : Option Addr} {dc : Nat} (h : rdN set l = some q) (k : Fr (fun j => X j ∨ j = P) w w') (h1 : Row w' P 100 51 51 (pkV q sa sc da dc)) (h2 : PkAt w' q sa sc da dc) (h3 : ∀ p, sa = some p → w.heap.size ≤ p.block) (h4 : ∀ p, da = some p → w.heap.size ≤ p.block) : ReadPost X w P set l (.returned (.bool true)) w' :=
  ⟨by rw [h]; rfl, k, fun q' hq => by rw [h] at hq; cases hq; exact ⟨sa, sc, da, dc, h1, h2, h3, h4⟩⟩
theorem nil_sms (w : World) : Sms w none 0 [] := ⟨by simp, by simp, by simp, .inl rfl⟩
set_option maxRecDepth 1000000 in
set_option maxHeartbeats 8000000 in
theorem read_any (B : Nat) (X : Nat → Prop) (w : World) (b P : Nat) (set l : List Nat) (h8 : set.length = 8) (hsb : IsByte set) (hin : InAt B X w b (some l)) (hp : Row w P 100 51 51 (pkV ⟨set, 0, 0, 0, 0, 0, zFil, [], 0, []⟩ none 0 none 0)) (hP : ¬ X P) :
    Calls Tryz.prog 87 #[.pointer (some ⟨P, 0, none⟩), .pointer (some ⟨b, 0, none⟩)] w (ReadPost X w P set l) := by
  have mixed : Tryz.prog.follows .mixedOrders = true := by kernel_rfl
  have hm6 : l.length ≤ 60000 := by
    obtain ⟨_, _, _, _, _, _, h, _⟩ := hin
    exact h
  have hlb : IsByte l := by
    obtain ⟨_, _, _, _, _, h, _⟩ := hin
    exact h.byte
  have HRS : Hid (∀ q, rdN set l = some q → PkIn q) := fun q hq => (rd_sound h8 hsb hlb hq).2.1
  have HLB := Lib.hid hlb
  have H0 : Hid (RdSt B X w P b ⟨set, 0, 0, 0, 0, 0, zFil, [], 0, []⟩ none 0 none 0 (some l) w) := ⟨hp, hin, Fr.refl _ _⟩
  have HNP := Lib.hid hP
  clear hlb hin hp hP h8 hsb
  go_enter Tryz.func87, Tryz.ntmps87
  have HN := Lib.hid (inN_any B X w b (some l) 1 H0.out.inn ⟨by omega, by omega⟩)
  obtain ⟨V1, hV1⟩ : ∃ v, v = ansN (some l) 1 := ⟨_, rfl⟩
  obtain ⟨s1, hs1⟩ : ∃ v, v = restN (some l) 1 := ⟨_, rfl⟩
  have HV1 := Lib.hid hV1
  have Hs1 := Lib.hid hs1
  rw [← hV1, ← hs1] at HN
  clear hV1 hs1
  go_wp2_with fail
  (with_reducible refine HN.out.mono ?_)
  rintro e w1 ⟨rfl, hi, hf⟩
  have HH1 := Lib.hid (H0.out.call HNP.out hi hf)
  have c0 := HH1.out.row.cell 8 (by omega)
  have f0 := HH1.out.row.loose 8
  clear hi hf HN H0
  go_upto_region 2 with fail
  have H1 : Hid (RdSt B X w P b ⟨set, (V1 : Int), 0, 0, 0, 0, zFil, [], 0, []⟩ none 0 none 0 s1 (World.setCell w1 ⟨P, 8, none⟩ (.int .i64 (V1 : Int)))) := HH1.out.set HNP.out (by omega) ⟨set, (V1 : Int), 0, 0, 0, 0, zFil, [], 0, []⟩ none 0 none 0 (pkV_kind ⟨set, 0, 0, 0, 0, 0, zFil, [], 0, []⟩ none 0 none 0 V1)
  clear HH1 c0 f0
  generalize World.setCell w1 ⟨P, 8, none⟩ (.int .i64 (V1 : Int)) = w1a at *
  have HV1L : V1 < 256 := by rw [HV1.out]; exact ansN_lt (fun l' e => by cases e; exact HLB.out) 1 1 rfl
  have c8 : w1a.cell? ⟨P, 8, none⟩ = some (.int .i64 (V1 : Int)) := H1.out.row.cell 8 (by omega)
  have hk1 : ∀ k : Nat, k ≠ V1 → ((V1 : Int) == (k : Int)) = false := fun k hk => by rw [beq_eq_false_iff_ne]; omega
  by_cases k1 : V1 = 1
  · have hV1 : Hid (1 = ansN (some l) 1) := by
      show _ = _
      rw [← k1]
      exact HV1.out
    clear HV1 hk1 HV1L
    subst k1
    have HN := Lib.hid (inN_any B X w1a b s1 2 H1.out.inn ⟨by omega, by omega⟩)
    obtain ⟨V2, hV2⟩ : ∃ v, v = ansN s1 2 := ⟨_, rfl⟩
    obtain ⟨s2, hs2⟩ : ∃ v, v = restN s1 2 := ⟨_, rfl⟩
    have HV2 := Lib.hid hV2
    have Hs2 := Lib.hid hs2
    rw [← hV2, ← hs2] at HN
    clear hV2 hs2
    go_wp2_with fail
    (with_reducible refine HN.out.mono ?_)
    rintro e w2 ⟨rfl, hi, hf⟩
    have HH2 := Lib.hid (H1.out.call HNP.out hi hf)
    have c0 := HH2.out.row.cell 9 (by omega)
    have f0 := HH2.out.row.loose 9
    clear hi hf HN H1
    go_upto_region 6 with fail
    have H2 : Hid (RdSt B X w P b ⟨set, ((1 : Nat) : Int), (V2 : Int), 0, 0, 0, zFil, [], 0, []⟩ none 0 none 0 s2 (World.setCell w2 ⟨P, 9, none⟩ (.int .i64 (V2 : Int)))) := HH2.out.set HNP.out (by omega) ⟨set, ((1 : Nat) : Int), (V2 : Int), 0, 0, 0, zFil, [], 0, []⟩ none 0 none 0 (pkV_slice ⟨set, ((1 : Nat) : Int), 0, 0, 0, 0, zFil, [], 0, []⟩ none 0 none 0 V2)
    clear HH2 c0 f0
    generalize World.setCell w2 ⟨P, 9, none⟩ (.int .i64 (V2 : Int)) = w2a at *
    have HN := Lib.hid (inN_any B X w2a b s2 1 H2.out.inn ⟨by omega, by omega⟩)
    obtain ⟨V3, hV3⟩ : ∃ v, v = ansN s2 1 := ⟨_, rfl⟩
    obtain ⟨s3, hs3⟩ : ∃ v, v = restN s2 1 := ⟨_, rfl⟩
    have HV3 := Lib.hid hV3
    have Hs3 := Lib.hid hs3
    rw [← hV3, ← hs3] at HN
    clear hV3 hs3
    go_wp2_with fail
    (with_reducible refine HN.out.mono ?_)
    rintro e w3 ⟨rfl, hi, hf⟩
    have HH3 := Lib.hid (H2.out.call HNP.out hi hf)
    have c0 := HH3.out.row.cell 10 (by omega)
    have f0 := HH3.out.row.loose 10
    clear hi hf HN H2
    go_upto_region 7 with fail
    have H3 : Hid (RdSt B X w P b ⟨set, ((1 : Nat) : Int), (V2 : Int), (V3 : Int), 0, 0, zFil, [], 0, []⟩ none 0 none 0 s3 (World.setCell w3 ⟨P, 10, none⟩ (.int .i64 (V3 : Int)))) := HH3.out.set HNP.out (by omega) ⟨set, ((1 : Nat) : Int), (V2 : Int), (V3 : Int), 0, 0, zFil, [], 0, []⟩ none 0 none 0 (pkV_files ⟨set, ((1 : Nat) : Int), (V2 : Int), 0, 0, 0, zFil, [], 0, []⟩ none 0 none 0 V3)
    clear HH3 c0 f0
    generalize World.setCell w3 ⟨P, 10, none⟩ (.int .i64 (V3 : Int)) = w3a at *
    have HN := Lib.hid (inN_any B X w3a b s3 2 H3.out.inn ⟨by omega, by omega⟩)
    obtain ⟨V4, hV4⟩ : ∃ v, v = ansN s3 2 := ⟨_, rfl⟩
    obtain ⟨s4, hs4⟩ : ∃ v, v = restN s3 2 := ⟨_, rfl⟩
    have HV4 := Lib.hid hV4
    have Hs4 := Lib.hid hs4
    rw [← hV4, ← hs4] at HN
    clear hV4 hs4
    go_wp2_with fail
    (with_reducible refine HN.out.mono ?_)
    rintro e w4 ⟨rfl, hi, hf⟩
    have HH4 := Lib.hid (H3.out.call HNP.out hi hf)
    have c0 := HH4.out.row.cell 11 (by omega)
    have f0 := HH4.out.row.loose 11
    clear hi hf HN H3
    go_upto_region 25 with fail
    have H4 : Hid (RdSt B X w P b ⟨set, ((1 : Nat) : Int), (V2 : Int), (V3 : Int), (V4 : Int), 0, zFil, [], 0, []⟩ none 0 none 0 s4 (World.setCell w4 ⟨P, 11, none⟩ (.int .i64 (V4 : Int)))) := HH4.out.set HNP.out (by omega) ⟨set, ((1 : Nat) : Int), (V2 : Int), (V3 : Int), (V4 : Int), 0, zFil, [], 0, []⟩ none 0 none 0 (pkV_slices ⟨set, ((1 : Nat) : Int), (V2 : Int), (V3 : Int), 0, 0, zFil, [], 0, []⟩ none 0 none 0 V4)
    clear HH4 c0 f0
    generalize World.setCell w4 ⟨P, 11, none⟩ (.int .i64 (V4 : Int)) = w4a at *
    have HDN := Lib.hid (inD_any B X w4a b s4 H4.out.inn)
    go_wp2_with fail
    (with_reducible refine HDN.out.mono ?_)
    rintro e wz ⟨rfl, rfl⟩
    clear HDN
    go_wp2_with fail
    go_ret
    show ReadPost X w P set l (.returned (.bool (decide (s4 = some [])))) w4a
    by_cases hz : s4 = some []
    · rw [decide_eq_true hz]
      have hrd : rdN set l = some ⟨set, ((1 : Nat) : Int), (V2 : Int), (V3 : Int), (V4 : Int), 0, zFil, [], 0, []⟩ := by
        unfold rdN
        rw [← hV1.out, if_pos rfl, ← Hs1.out]
        unfold rdMain
        rw [← Hs2.out, ← Hs3.out, ← Hs4.out, if_pos hz, ← HV2.out, ← HV3.out, ← HV4.out]
        rfl
      exact readPost_some hrd H4.out.fr H4.out.row ⟨HRS.out _ hrd, nil_sms _, nil_sl _⟩ (fun p hp => by cases hp) (fun p hp => by cases hp)
    · rw [decide_eq_false hz]
      have hrn : rdN set l = none := by
        unfold rdN
        rw [← hV1.out, if_pos rfl, ← Hs1.out]
        unfold rdMain
        rw [← Hs2.out, ← Hs3.out, ← Hs4.out, if_neg hz]
      exact readPost_none hrn H4.out.fr
  by_cases k2 : V1 = 2
  · have hV1 : Hid (2 = ansN (some l) 1) := by
      show _ = _
      rw [← k2]
      exact HV1.out
    clear HV1 hk1 HV1L
    subst k2
    have HN := Lib.hid (inN_any B X w1a b s1 1 H1.out.inn ⟨by omega, by omega⟩)
    obtain ⟨V5, hV5⟩ : ∃ v, v = ansN s1 1 := ⟨_, rfl⟩
    obtain ⟨s5, hs5⟩ : ∃ v, v = restN s1 1 := ⟨_, rfl⟩
    have HV5 := Lib.hid hV5
    have Hs5 := Lib.hid hs5
    rw [← hV5, ← hs5] at HN
    clear hV5 hs5
    go_wp2_with fail
    (with_reducible refine HN.out.mono ?_)
    rintro e w5 ⟨rfl, hi, hf⟩
    have HH5 := Lib.hid (H1.out.call HNP.out hi hf)
    have c0 := HH5.out.row.cell 12 (by omega)
    have f0 := HH5.out.row.loose 12
    clear hi hf HN H1
    go_upto_region 10 with fail
    have H5 : Hid (RdSt B X w P b ⟨set, ((2 : Nat) : Int), 0, 0, 0, (V5 : Int), zFil, [], 0, []⟩ none 0 none 0 s5 (World.setCell w5 ⟨P, 12, none⟩ (.int .i64 (V5 : Int)))) := HH5.out.set HNP.out (by omega) ⟨set, ((2 : Nat) : Int), 0, 0, 0, (V5 : Int), zFil, [], 0, []⟩ none 0 none 0 (pkV_index ⟨set, ((2 : Nat) : Int), 0, 0, 0, 0, zFil, [], 0, []⟩ none 0 none 0 V5)
    clear HH5 c0 f0
    generalize World.setCell w5 ⟨P, 12, none⟩ (.int .i64 (V5 : Int)) = w5a at *
    have HTX := Lib.hid (inT_any B X w5a b s5 H5.out.inn)
    obtain ⟨T, hT⟩ : ∃ T, T = ansT s5 := ⟨_, rfl⟩
    obtain ⟨st, hst⟩ : ∃ st, st = restT s5 := ⟨_, rfl⟩
    have HTE := Lib.hid hT
    have Hst := Lib.hid hst
    rw [← hT, ← hst] at HTX
    clear hT hst
    go_wp2_with fail
    (with_reducible refine HTX.out.mono ?_)
    rintro e wt ⟨rfl, hi, hf⟩
    have HHt := Lib.hid (H5.out.call HNP.out hi hf)
    have c0 := HHt.out.row.cell 13 (by omega)
    have f0 := HHt.out.row.loose 13
    clear hi hf HTX H5
    go_upto_region 11 with fail
    have Ht : Hid (RdSt B X w P b ⟨set, ((2 : Nat) : Int), 0, 0, 0, (V5 : Int), ⟨T, 0, List.replicate 32 0, 0⟩, [], 0, []⟩ none 0 none 0 st (World.setCell wt ⟨P, 13, none⟩ (.string (strOf T)))) := HHt.out.set HNP.out (by omega) ⟨set, ((2 : Nat) : Int), 0, 0, 0, (V5 : Int), ⟨T, 0, List.replicate 32 0, 0⟩, [], 0, []⟩ none 0 none 0 (pkV_file ⟨set, ((2 : Nat) : Int), 0, 0, 0, (V5 : Int), zFil, [], 0, []⟩ none 0 none 0 zFil ⟨T, 0, List.replicate 32 0, 0⟩ 13 _ (by omega) (by omega) (filV_name zFil T))
    clear HHt c0 f0
    generalize World.setCell wt ⟨P, 13, none⟩ (.string (strOf T)) = wta at *
    have HN := Lib.hid (inN_any B X wta b st 4 Ht.out.inn ⟨by omega, by omega⟩)
    obtain ⟨V6, hV6⟩ : ∃ v, v = ansN st 4 := ⟨_, rfl⟩
    obtain ⟨s6, hs6⟩ : ∃ v, v = restN st 4 := ⟨_, rfl⟩
    have HV6 := Lib.hid hV6
    have Hs6 := Lib.hid hs6
    rw [← hV6, ← hs6] at HN
    clear hV6 hs6
    go_wp2_with fail
    (with_reducible refine HN.out.mono ?_)
    rintro e w6 ⟨rfl, hi, hf⟩
    have HH6 := Lib.hid (Ht.out.call HNP.out hi hf)
    have c0 := HH6.out.row.cell 14 (by omega)
    have f0 := HH6.out.row.loose 14
    clear hi hf HN Ht
    go_upto_region 12 with fail
    have H6 : Hid (RdSt B X w P b ⟨set, ((2 : Nat) : Int), 0, 0, 0, (V5 : Int), ⟨T, (V6 : Int), List.replicate 32 0, 0⟩, [], 0, []⟩ none 0 none 0 s6 (World.setCell w6 ⟨P, 14, none⟩ (.int .i64 (V6 : Int)))) := HH6.out.set HNP.out (by omega) ⟨set, ((2 : Nat) : Int), 0, 0, 0, (V5 : Int), ⟨T, (V6 : Int), List.replicate 32 0, 0⟩, [], 0, []⟩ none 0 none 0 (pkV_file ⟨set, ((2 : Nat) : Int), 0, 0, 0, (V5 : Int), ⟨T, 0, List.replicate 32 0, 0⟩, [], 0, []⟩ none 0 none 0 ⟨T, 0, List.replicate 32 0, 0⟩ ⟨T, (V6 : Int), List.replicate 32 0, 0⟩ 14 _ (by omega) (by omega) (filV_size ⟨T, 0, List.replicate 32 0, 0⟩ (V6 : Int)))
    clear HH6 c0 f0
    generalize World.setCell w6 ⟨P, 14, none⟩ (.int .i64 (V6 : Int)) = w6a at *
    obtain ⟨wd, hwd⟩ : ∃ wd, wd = w6a.drew := ⟨_, rfl⟩
    have HAd : Hid (RdSt B X w P b ⟨set, ((2 : Nat) : Int), 0, 0, 0, (V5 : Int), ⟨T, (V6 : Int), List.replicate 32 0, 0⟩, [], 0, []⟩ none 0 none 0 s6 wd) := by
      have hb : Below w6a.heap.size w6a wd := by rw [hwd]; exact (Below.refl _ _).drew
      exact H6.out.call HNP.out (H6.out.inn.keep (Fr.of_below (X := fun _ => False) hb) fun _ _ h => h) (Fr.of_below hb)
    clear H6
    have HRW := Lib.hid (inR_any B X wd b s6 32 HAd.out.inn ⟨by omega, by omega⟩)
    have hx32 := raw_32 s6
    obtain ⟨x, hx⟩ : ∃ x, x = ansR s6 32 := ⟨_, rfl⟩
    obtain ⟨sx, hsx⟩ : ∃ sx, sx = restR s6 32 := ⟨_, rfl⟩
    have HXE := Lib.hid hx
    have Hsx := Lib.hid hsx
    rw [← hx, ← hsx] at HRW hx32
    have HX32 := Lib.hid hx32
    have hxl : x.length ≤ 32 := by rcases hx32 with h | h; omega; rw [h.1]; simp
    have HX2 : Hid (x.length = 32 ∨ x = []) := hx32.imp id fun h => h.1
    clear hx hsx hx32
    refine growK_begin 7 (fun w' => ∃ u : KeepW wd X, w' = u.v) (by kernel_rfl) ?_
    rw [← hwd]
    clear hwd
    refine growK_take (by kernel_rfl) [0, 1, 2, 3, 4, 5] 2 _ _ (by kernel_rfl) _ (keep_class (Fr.refl _ _)) ?_
    simp only [opsAt, List.getElem?_toArray, List.getElem?_cons_succ, List.getElem?_cons_zero]
    repeat (first | go_big_quiet_step (fail) | quiet_step (fail))
    refine wpQuiet_nil ?_
    refine growK_one 6 (by kernel_rfl) (fun K hK => ?_)
    simp only [stepOf, List.getElem?_toArray, List.getElem?_cons_succ, List.getElem?_cons_zero]
    go_simp
    go_at_call 86
    (with_reducible refine HRW.out.mono ?_)
    rintro e w5 ⟨⟨sa', sc', rfl, hs, hnew⟩, hi, hf⟩
    have HA5 := Lib.hid (HAd.out.call HNP.out hi hf)
    have HS5 := Lib.hid hs
    refine hK.out _ _ (keep_class hf) ?_
    clear hK K hs hnew hi hf HRW HAd
    refine growK_last (by kernel_rfl) (by kernel_rfl) (fun K hK => ?_)
    simp only [stepOf, List.getElem?_toArray, List.getElem?_cons_succ, List.getElem?_cons_zero]
    rw [if_pos (by rfl)]
    refine wp_copyB _ (.tmp 55) (.tmp 57) rfl P 15 51 51 51 32 32 (pkV ⟨set, ((2 : Nat) : Int), 0, 0, 0, (V5 : Int), ⟨T, (V6 : Int), List.replicate 32 0, 0⟩, [], 0, []⟩ none 0 none 0) (pkV ⟨set, ((2 : Nat) : Int), 0, 0, 0, (V5 : Int), ⟨T, (V6 : Int), dgOr x, 0⟩, [], 0, []⟩ none 0 none 0) 100 rfl sa' sc' x.length x rfl rfl HA5.out.row HS5.out hxl (by omega) (Nat.le_refl _) (pkV_digest ⟨set, ((2 : Nat) : Int), 0, 0, 0, (V5 : Int), ⟨T, (V6 : Int), List.replicate 32 0, 0⟩, [], 0, []⟩ none 0 none 0 ⟨T, (V6 : Int), List.replicate 32 0, 0⟩ x HX2.out rfl) ?_
    intro w6 hr6 hf6
    have H6 : Hid (RdSt B X w P b ⟨set, ((2 : Nat) : Int), 0, 0, 0, (V5 : Int), ⟨T, (V6 : Int), dgOr x, 0⟩, [], 0, []⟩ none 0 none 0 sx w6) := ⟨hr6.out, HA5.out.inn.keep hf6.out fun j hj e => HNP.out (e ▸ hj), HA5.out.fr.over (hf6.out.mono fun j _ hj => .inr hj) fun j hj => .inl hj⟩
    clear hr6 hf6 HA5 HS5 HX2
    refine hK.out _ _ ?_
    clear hK K
    have HN := Lib.hid (inN_any B X w6 b sx 2 H6.out.inn ⟨by omega, by omega⟩)
    obtain ⟨V7, hV7⟩ : ∃ v, v = ansN sx 2 := ⟨_, rfl⟩
    obtain ⟨s7, hs7⟩ : ∃ v, v = restN sx 2 := ⟨_, rfl⟩
    have HV7 := Lib.hid hV7
    have Hs7 := Lib.hid hs7
    rw [← hV7, ← hs7] at HN
    clear hV7 hs7
    go_wp2_with fail
    (with_reducible refine HN.out.mono ?_)
    rintro e w7 ⟨rfl, hi, hf⟩
    have HH7 := Lib.hid (H6.out.call HNP.out hi hf)
    have c0 := HH7.out.row.cell 47 (by omega)
    have f0 := HH7.out.row.loose 47
    clear hi hf HN H6
    go_upto_region 25 with fail
    have H7 : Hid (RdSt B X w P b ⟨set, ((2 : Nat) : Int), 0, 0, 0, (V5 : Int), ⟨T, (V6 : Int), dgOr x, (V7 : Int)⟩, [], 0, []⟩ none 0 none 0 s7 (World.setCell w7 ⟨P, 47, none⟩ (.int .i64 (V7 : Int)))) := HH7.out.set HNP.out (by omega) ⟨set, ((2 : Nat) : Int), 0, 0, 0, (V5 : Int), ⟨T, (V6 : Int), dgOr x, (V7 : Int)⟩, [], 0, []⟩ none 0 none 0 (pkV_file ⟨set, ((2 : Nat) : Int), 0, 0, 0, (V5 : Int), ⟨T, (V6 : Int), dgOr x, 0⟩, [], 0, []⟩ none 0 none 0 ⟨T, (V6 : Int), dgOr x, 0⟩ ⟨T, (V6 : Int), dgOr x, (V7 : Int)⟩ 47 _ (by omega) (by omega) (filV_first ⟨T, (V6 : Int), dgOr x, 0⟩ (V7 : Int)))
    clear HH7 c0 f0
    generalize World.setCell w7 ⟨P, 47, none⟩ (.int .i64 (V7 : Int)) = w7a at *
    have HDN := Lib.hid (inD_any B X w7a b s7 H7.out.inn)
    go_wp2_with fail
    (with_reducible refine HDN.out.mono ?_)
    rintro e wz ⟨rfl, rfl⟩
    clear HDN
    go_wp2_with fail
    go_ret
    show ReadPost X w P set l (.returned (.bool (decide (s7 = some [])))) w7a
    by_cases hz : s7 = some []
    · rw [decide_eq_true hz]
      have hrd : rdN set l = some ⟨set, ((2 : Nat) : Int), 0, 0, 0, (V5 : Int), ⟨T, (V6 : Int), dgOr x, (V7 : Int)⟩, [], 0, []⟩ := by
        have hxl2 : x.length = 32 := by
          rcases HX32.out with h | h
          · exact h
          · have := Hs7.out
            rw [h.2, restN_of_none] at this
            rw [this] at hz
            cases hz
        have hdx : dgOr x = x := by unfold dgOr; rw [if_pos hxl2]
        unfold rdN
        rw [← hV1.out, if_neg (by decide), if_pos rfl, ← Hs1.out]
        unfold rdFile
        rw [← Hs5.out, ← Hst.out, ← Hs6.out, ← Hsx.out, ← Hs7.out, if_pos hz, ← HV5.out, ← HTE.out, ← HV6.out, ← HXE.out, ← HV7.out, hdx]
        rfl
      exact readPost_some hrd H7.out.fr H7.out.row ⟨HRS.out _ hrd, nil_sms _, nil_sl _⟩ (fun p hp => by cases hp) (fun p hp => by cases hp)
    · rw [decide_eq_false hz]
      have hrn : rdN set l = none := by
        unfold rdN
        rw [← hV1.out, if_neg (by decide), if_pos rfl, ← Hs1.out]
        unfold rdFile
        rw [← Hs5.out, ← Hst.out, ← Hs6.out, ← Hsx.out, ← Hs7.out, if_neg hz]
      exact readPost_none hrn H7.out.fr
  by_cases k3 : V1 = 3
  · have hV1 : Hid (3 = ansN (some l) 1) := by
      show _ = _
      rw [← k3]
      exact HV1.out
    clear HV1 hk1 HV1L
    subst k3
    have HN := Lib.hid (inN_any B X w1a b s1 1 H1.out.inn ⟨by omega, by omega⟩)
    obtain ⟨V8, hV8⟩ : ∃ v, v = ansN s1 1 := ⟨_, rfl⟩
    obtain ⟨s8, hs8⟩ : ∃ v, v = restN s1 1 := ⟨_, rfl⟩
    have HV8 := Lib.hid hV8
    have Hs8 := Lib.hid hs8
    rw [← hV8, ← hs8] at HN
    clear hV8 hs8
    go_wp2_with fail
    (with_reducible refine HN.out.mono ?_)
    rintro e w8 ⟨rfl, hi, hf⟩
    have HH8 := Lib.hid (H1.out.call HNP.out hi hf)
    have c0 := HH8.out.row.cell 12 (by omega)
    have f0 := HH8.out.row.loose 12
    clear hi hf HN H1
    go_upto_region 16 with fail
    have H8 : Hid (RdSt B X w P b ⟨set, ((3 : Nat) : Int), 0, 0, 0, (V8 : Int), zFil, [], 0, []⟩ none 0 none 0 s8 (World.setCell w8 ⟨P, 12, none⟩ (.int .i64 (V8 : Int)))) := HH8.out.set HNP.out (by omega) ⟨set, ((3 : Nat) : Int), 0, 0, 0, (V8 : Int), zFil, [], 0, []⟩ none 0 none 0 (pkV_index ⟨set, ((3 : Nat) : Int), 0, 0, 0, 0, zFil, [], 0, []⟩ none 0 none 0 V8)
    clear HH8 c0 f0
    generalize World.setCell w8 ⟨P, 12, none⟩ (.int .i64 (V8 : Int)) = w8a at *
    have HBY : Hid (ansN s8 2 < 65536) := ansN_lt H8.out.inn.byte 2 2 rfl
    have HN := Lib.hid (inN_any B X w8a b s8 2 H8.out.inn ⟨by omega, by omega⟩)
    obtain ⟨V9, hV9⟩ : ∃ v, v = ansN s8 2 := ⟨_, rfl⟩
    obtain ⟨s9, hs9⟩ : ∃ v, v = restN s8 2 := ⟨_, rfl⟩
    have HV9 := Lib.hid hV9
    have Hs9 := Lib.hid hs9
    rw [← hV9, ← hs9] at HN
    clear hV9 hs9
    go_wp2_with fail
    (with_reducible refine HN.out.mono ?_)
    rintro e w9 ⟨rfl, hi, hf⟩
    have HH9 := Lib.hid (H8.out.call HNP.out hi hf)
    clear hi hf HN H8
    go_upto_region 17 with fail

    have HLF := Lib.hid (inL_any B X w9 b s9 HH9.out.inn)
    have hsh := HH9.out.inn.short
    obtain ⟨L, hL⟩ : ∃ L, L = leftI s9 := ⟨_, rfl⟩
    have HLE := Lib.hid hL
    rw [← hL] at HLF hsh
    clear hL
    by_cases g : L = 38 * V9
    · have g1 : ((L : Int) == (V9 : Int) * 38) = true := by rw [beq_iff_eq]; omega
      have HG := Lib.hid g
      have hVL : V9 ≤ 2000 := by omega
      clear g
      cases hsb : s9 with
      | none =>
        have HSB := Lib.hid hsb
        have hv0 : V9 = 0 := by rw [HV9.out]; exact restN_none_ans (by rw [← Hs9.out]; exact hsb)
        have HV0 := Lib.hid hv0
        rw [hv0] at g1
        subst hv0
        have HRS0 := Lib.hid (readSums0_any B X w9 b s9 HH9.out.inn)
        clear hsb
        go_wp2_with fail
        (with_reducible refine HLF.out.mono ?_)
        rintro e wz ⟨rfl, rfl⟩
        go_wp2_with fail
        (with_reducible refine HRS0.out.mono ?_)
        rintro e w7 ⟨S, rfl, hSw, hi, hf⟩
        have HH7 := Lib.hid (HH9.out.call HNP.out hi hf)
        have c0 := HH7.out.row.cell 48 (by omega)
        have f0 := HH7.out.row.loose 48
        clear hi hf HRS0 HLF HH9
        go_upto_region 25 with fail
        have H7 : Hid (RdSt B X w P b ⟨set, ((3 : Nat) : Int), 0, 0, 0, (V8 : Int), zFil, [], 0, []⟩ (some ⟨S, 0, none⟩) 0 none 0 s9 (World.setCell w7 ⟨P, 48, none⟩ (.slice (some ⟨S, 0, none⟩) 0 0))) := HH7.out.set HNP.out (by omega) ⟨set, ((3 : Nat) : Int), 0, 0, 0, (V8 : Int), zFil, [], 0, []⟩ (some ⟨S, 0, none⟩) 0 none 0 (pkV_sums ⟨set, ((3 : Nat) : Int), 0, 0, 0, (V8 : Int), zFil, [], 0, []⟩ none 0 none 0 [] (some ⟨S, 0, none⟩) 0)
        clear HH7 c0 f0
        generalize World.setCell w7 ⟨P, 48, none⟩ (.slice (some ⟨S, 0, none⟩) 0 0) = w7a at *
        have HDN := Lib.hid (inD_any B X w7a b s9 H7.out.inn)
        rw [show decide (s9 = some []) = false by rw [HSB.out]; rfl] at HDN
        go_wp2_with fail
        (with_reducible refine HDN.out.mono ?_)
        rintro e wz ⟨rfl, rfl⟩
        clear HDN
        go_wp2_with fail
        go_ret
        refine readPost_none ?_ H7.out.fr
        unfold rdN
        rw [← hV1.out, if_neg (by decide), if_neg (by decide), if_pos rfl, ← Hs1.out]
        unfold rdSumsP
        rw [← Hs8.out, ← Hs9.out, HSB.out]
      | some m =>
        have hml : m.length = 38 * V9 := by
          have := HLE.out
          rw [hsb] at this
          have e : L = m.length := this
          have := HG.out
          omega
        have Hm : Hid (some m = restN s8 2) := by show _ = _; rw [← hsb]; exact Hs9.out
        have HML := Lib.hid hml
        clear HLE hml
        subst hsb
        have HMB := Lib.hid (HH9.out.inn.byte m rfl)
        have HRSm := Lib.hid (readSums_any B X w9 b m V9 HH9.out.inn HML.out)
        go_wp2_with fail
        (with_reducible refine HLF.out.mono ?_)
        rintro e wz ⟨rfl, rfl⟩
        go_wp2_with fail
        (with_reducible refine HRSm.out.mono ?_)
        rintro e w7 ⟨S, rfl, hrow, hSw, hi, hf⟩
        have HRW := Lib.hid hrow
        have HSW : Hid (w.heap.size ≤ S) := Nat.le_trans HH9.out.fr.size hSw
        have HPL := Lib.hid HH9.out.row.lt
        have hSP : S ≠ P := by have := HPL.out; omega
        have HH7 := Lib.hid (HH9.out.call HNP.out hi hf)
        have c0 := HH7.out.row.cell 48 (by omega)
        have f0 := HH7.out.row.loose 48
        clear hi hf hrow HRSm HLF HH9
        go_upto_region 25 with fail
        have HD7 : Hid (Sms (World.setCell w7 ⟨P, 48, none⟩ (.slice (some ⟨S, 0, none⟩) V9 V9)) (some ⟨S, 0, none⟩) V9 (rdSums V9 m)) := sms_of_row (HRW.out.other hSP) (by rw [HML.out]; exact Nat.le_refl _) HMB.out (by omega)
        have H7 : Hid (RdSt B X w P b ⟨set, ((3 : Nat) : Int), 0, 0, 0, (V8 : Int), zFil, (rdSums V9 m), 0, []⟩ (some ⟨S, 0, none⟩) V9 none 0 (some []) (World.setCell w7 ⟨P, 48, none⟩ (.slice (some ⟨S, 0, none⟩) V9 V9))) := by
          have h := HH7.out.set HNP.out (by omega) ⟨set, ((3 : Nat) : Int), 0, 0, 0, (V8 : Int), zFil, (rdSums V9 m), 0, []⟩ (some ⟨S, 0, none⟩) V9 none 0 (pkV_sums ⟨set, ((3 : Nat) : Int), 0, 0, 0, (V8 : Int), zFil, [], 0, []⟩ none 0 none 0 (rdSums V9 m) (some ⟨S, 0, none⟩) V9)
          rw [rdSums_len] at h
          exact h
        clear HH7 c0 f0 HRW HPL
        generalize World.setCell w7 ⟨P, 48, none⟩ (.slice (some ⟨S, 0, none⟩) V9 V9) = w7a at *
        have HDN := Lib.hid (inD_any B X w7a b (some []) H7.out.inn)
        rw [show decide ((some [] : Option (List Nat)) = some []) = true from rfl] at HDN
        go_wp2_with fail
        (with_reducible refine HDN.out.mono ?_)
        rintro e wz ⟨rfl, rfl⟩
        clear HDN
        go_wp2_with fail
        go_ret
        have hrd : rdN set l = some ⟨set, ((3 : Nat) : Int), 0, 0, 0, (V8 : Int), zFil, (rdSums V9 m), 0, []⟩ := by
          unfold rdN
          rw [← hV1.out, if_neg (by decide), if_neg (by decide), if_pos rfl, ← Hs1.out]
          unfold rdSumsP
          rw [← Hs8.out, ← Hm.out]
          simp only
          rw [← HV9.out, if_pos HML.out, ← HV8.out]
          rfl
        exact readPost_some hrd H7.out.fr H7.out.row ⟨HRS.out _ hrd, HD7.out, nil_sl _⟩ (fun p hp => by cases hp; exact HSW.out) (fun p hp => by cases hp)
    · have g1 : ((L : Int) == (V9 : Int) * 38) = false := by rw [beq_eq_false_iff_ne]; omega
      have HG := Lib.hid g
      have hVL : V9 < 65536 := by rw [HV9.out]; exact HBY.out
      clear g
      go_wp2_with fail
      (with_reducible refine HLF.out.mono ?_)
      rintro e wz ⟨rfl, rfl⟩
      clear HLF
      go_wp2_with fail
      go_ret
      refine readPost_none ?_ HH9.out.fr
      unfold rdN
      rw [← hV1.out, if_neg (by decide), if_neg (by decide), if_pos rfl, ← Hs1.out]
      unfold rdSumsP
      rw [← Hs8.out, ← Hs9.out]
      cases h : s9 with
      | none => rfl
      | some m =>
        simp only
        rw [if_neg]
        have := HLE.out
        rw [h] at this
        have : L = m.length := this
        rw [← this, ← HV9.out]
        exact HG.out
  by_cases k4 : V1 = 4
  · have hV1 : Hid (4 = ansN (some l) 1) := by
      show _ = _
      rw [← k4]
      exact HV1.out
    clear HV1 hk1 HV1L
    subst k4
    have HN := Lib.hid (inN_any B X w1a b s1 4 H1.out.inn ⟨by omega, by omega⟩)
    obtain ⟨V10, hV10⟩ : ∃ v, v = ansN s1 4 := ⟨_, rfl⟩
    obtain ⟨s10, hs10⟩ : ∃ v, v = restN s1 4 := ⟨_, rfl⟩
    have HV10 := Lib.hid hV10
    have Hs10 := Lib.hid hs10
    rw [← hV10, ← hs10] at HN
    have hcv : IntKind.u32.wrap (V10 : Int) = (V10 : Int) := u32_wrap _ (by rw [hV10]; exact ansN_lt H1.out.inn.byte 4 4 rfl)
    clear hV10 hs10
    go_wp2_with fail
    (with_reducible refine HN.out.mono ?_)
    rintro e w10 ⟨rfl, hi, hf⟩
    have HH10 := Lib.hid (H1.out.call HNP.out hi hf)
    have c0 := HH10.out.row.cell 49 (by omega)
    have f0 := HH10.out.row.loose 49
    clear hi hf HN H1
    go_upto_region 22 with fail
    have H10 : Hid (RdSt B X w P b ⟨set, ((4 : Nat) : Int), 0, 0, 0, 0, zFil, [], V10, []⟩ none 0 none 0 s10 (World.setCell w10 ⟨P, 49, none⟩ (.int .u32 (V10 : Int)))) := HH10.out.set HNP.out (by omega) ⟨set, ((4 : Nat) : Int), 0, 0, 0, 0, zFil, [], V10, []⟩ none 0 none 0 (pkV_id ⟨set, ((4 : Nat) : Int), 0, 0, 0, 0, zFil, [], 0, []⟩ none 0 none 0 V10)
    clear HH10 c0 f0
    generalize World.setCell w10 ⟨P, 49, none⟩ (.int .u32 (V10 : Int)) = w10a at *
    clear hcv
    have HLF := Lib.hid (inL_any B X w10a b s10 H10.out.inn)
    have hsh := H10.out.inn.short
    obtain ⟨L, hL⟩ : ∃ L, L = leftI s10 := ⟨_, rfl⟩
    have HLE := Lib.hid hL
    rw [← hL] at HLF hsh
    clear hL
    have HSY := Lib.hid (symbolic_any L w10a (by omega))
    by_cases g : 1 ≤ L ∧ L ≤ 256
    · rw [decide_eq_true g] at HSY
      have HSM : Hid (∃ m, s10 = some m ∧ m.length = L) := by
        show ∃ m, _
        cases h : s10 with
        | none =>
          have := HLE.out
          rw [h] at this
          simp [leftI] at this
          omega
        | some m => exact ⟨m, rfl, by rw [HLE.out, h]; rfl⟩
      obtain ⟨m, hm, hml⟩ := HSM.out
      have Hm : Hid (some m = restN s1 4) := by show _ = _; rw [← hm]; exact Hs10.out
      have HML := Lib.hid hml
      clear HSM HLE hml
      subst hm
      have HRW := Lib.hid (inR_read (l := m) H10.out.inn L L rfl (by rw [HML.out]; exact Nat.le_refl _))
      rw [List.take_of_length_le (by rw [HML.out]; exact Nat.le_refl _), List.drop_eq_nil_of_le (by rw [HML.out]; exact Nat.le_refl _)] at HRW
      have HG := Lib.hid g
      clear g
      go_wp2_with fail
      (with_reducible refine HLF.out.mono ?_)
      rintro e wz ⟨rfl, rfl⟩
      go_wp2_with fail
      (with_reducible refine HSY.out.mono ?_)
      rintro e wz ⟨rfl, rfl⟩
      go_wp2_with fail
      (with_reducible refine HLF.out.mono ?_)
      rintro e wz ⟨rfl, rfl⟩
      go_wp2_with fail
      (with_reducible refine HRW.out.mono ?_)
      rintro e w7 ⟨⟨da, dc, rfl, hs, hnew⟩, hi, hf⟩
      have HPL := Lib.hid H10.out.row.lt
      have HS7 := Lib.hid hs
      have HNW := Lib.hid hnew
      have HNW2 : Hid (∀ p, da = some p → w.heap.size ≤ p.block) := fun p hp => Nat.le_trans H10.out.fr.size (hnew p hp)
      have HH7 := Lib.hid (H10.out.call HNP.out hi hf)
      have c0 := HH7.out.row.cell 50 (by omega)
      have f0 := HH7.out.row.loose 50
      clear hi hf hs hnew HLF HSY HRW H10
      go_upto_region 25 with fail
      have HD7 : Hid (Sl (World.setCell w7 ⟨P, 50, none⟩ (.slice da L dc)) da dc m) := HS7.out.of_block fun q hq _ => Below.heap_setCell _ _ _ _ (by have := HNW.out q hq; have := HPL.out; intro e; have e2 : q.block = P := e; omega)
      have H7 : Hid (RdSt B X w P b ⟨set, ((4 : Nat) : Int), 0, 0, 0, 0, zFil, [], V10, m⟩ none 0 da dc (some []) (World.setCell w7 ⟨P, 50, none⟩ (.slice da L dc))) := by
        have h := HH7.out.set HNP.out (by omega) ⟨set, ((4 : Nat) : Int), 0, 0, 0, 0, zFil, [], V10, m⟩ none 0 da dc (pkV_data ⟨set, ((4 : Nat) : Int), 0, 0, 0, 0, zFil, [], V10, []⟩ none 0 none 0 m da dc)
        rw [HML.out] at h
        exact h
      clear HH7 c0 f0 HS7 HNW HPL
      generalize World.setCell w7 ⟨P, 50, none⟩ (.slice da L dc) = w7a at *
      have HDN := Lib.hid (inD_any B X w7a b (some []) H7.out.inn)
      rw [show decide ((some [] : Option (List Nat)) = some []) = true from rfl] at HDN
      go_wp2_with fail
      (with_reducible refine HDN.out.mono ?_)
      rintro e wz ⟨rfl, rfl⟩
      clear HDN
      go_wp2_with fail
      go_ret
      have hrd : rdN set l = some ⟨set, ((4 : Nat) : Int), 0, 0, 0, 0, zFil, [], V10, m⟩ := by
        unfold rdN
        rw [← hV1.out, if_neg (by decide), if_neg (by decide), if_neg (by decide), if_pos rfl, ← Hs1.out]
        unfold rdSym
        rw [← Hm.out]
        simp only
        rw [if_pos (by rw [HML.out]; exact HG.out), ← HV10.out]
        rfl
      exact readPost_some hrd H7.out.fr H7.out.row ⟨HRS.out _ hrd, nil_sms _, HD7.out⟩ (fun p hp => by cases hp) HNW2.out
    · rw [decide_eq_false g] at HSY
      have HG := Lib.hid g
      clear g
      go_wp2_with fail
      (with_reducible refine HLF.out.mono ?_)
      rintro e wz ⟨rfl, rfl⟩
      go_wp2_with fail
      (with_reducible refine HSY.out.mono ?_)
      rintro e wz ⟨rfl, rfl⟩
      clear HLF HSY
      go_wp2_with fail
      go_ret
      refine readPost_none ?_ H10.out.fr
      unfold rdN
      rw [← hV1.out, if_neg (by decide), if_neg (by decide), if_neg (by decide), if_pos rfl, ← Hs1.out]
      unfold rdSym
      rw [← Hs10.out]
      cases h : s10 with
      | none => rfl
      | some m =>
        simp only
        rw [if_neg]
        have := HLE.out
        rw [h] at this
        have : L = m.length := this
        rw [← this]
        exact HG.out
  have g1 : ((V1 : Int) == 1) = false := hk1 1 (by omega)
  have g2 : ((V1 : Int) == 2) = false := hk1 2 (by omega)
  have g3 : ((V1 : Int) == 3) = false := hk1 3 (by omega)
  have g4 : ((V1 : Int) == 4) = false := hk1 4 (by omega)
  clear hk1
  go_wp2_with fail
  go_ret
  exact readPost_none (by unfold rdN; rw [← HV1.out, if_neg k1, if_neg k2, if_neg k3, if_neg k4]) H1.out.fr
end Go.Proofs.YtfgaohilpbocbaaGreatDoor
end
