/-
  What Append does to a disk.
-/
import Derived.Test.YtoiggdcgfbjhpaaDskZ
namespace Go.Proofs.Ytoiggdcgfbjhpaa
open Go.ChangeShapes Go.WideShapes Go.ChangeAt Go.RowKit Go.Joins
set_option linter.unusedVariables false

set_option maxRecDepth 100000 in
set_option maxHeartbeats 1000000 in
theorem append_any {w : World} {B : Nat} {S : St} {g : Gh} (s : ByteArray) (ga : Option Addr) (gc : Nat) (m : List Nat) (h : Rep w B S g) (hs : s.size ≤ maxLen) (hsl : Sl w ga gc m) (hfar : ∀ p, ga = some p → m ≠ [] → ¬ Foot B g p.block) (hsz : ∀ i, (S.F i).bytes.length + m.length ≤ 1000000) :
    Calls Try.prog 18 #[.pointer (some ⟨B, 0, none⟩), .string s, .slice ga m.length gc] w fun e w' => e = .returned (.int .i64 (appendS s m S).1) ∧ Did B (appendS s m S).2 g w w' := by
  have H := Lib.hid h
  have HSL := Lib.hid hsl
  have HFAR := Lib.hid hfar
  have HSZ := Lib.hid hsz
  have hlm := hsl.lt
  have hlc : (m.length : Int) ≤ (gc : Int) := by have := hsl.len; omega
  have hgc : gc ≤ 9223372036854775807 := by have := hsl.most; unfold maxLen at this; omega
  have HN := Lib.hid hsl.none
  have hp := power_rep h
  have c2 : w.cell? ⟨B, 2, none⟩ = some (.map g.nm) := by rw [h.at'.cell]; simp [Dk.cells, Gh.on]
  have hroom := room_rep h
  have hnum := h.nm.num hs
  clear h hs hsl hfar hsz
  cases hl : S.d.lost with
  | true =>
    have HV : Hid (appendS s m S = (6, S)) := by show _ = _; unfold appendS; rw [if_pos hl]
    rw [hl] at hp
    simp only [if_true] at hp
    clear hl hroom hnum
    go_enter Try.func18, Try.ntmps18
    go_wp2_with fail
    (with_reducible refine hp.mono ?_)
    rintro e w1 ⟨rfl, rfl⟩
    go_wp2_with fail
    go_ret
    rw [HV.out]
    exact ⟨rfl, H.out.did⟩
  | false =>
    rw [hl] at hp
    simp only [Bool.false_eq_true, if_false] at hp
    rcases hnum with ⟨hn, hr⟩ | ⟨b, i, hi, hn, hr⟩
    · have HV : Hid (appendS s m S = (7, S)) := by show _ = _; unfold appendS; rw [if_neg (by simp [hl]), if_pos hn]
      have hq := eqp_none w
      clear hl hn
      go_enter Try.func18, Try.ntmps18
      go_wp2_with fail
      (with_reducible refine hp.mono ?_)
      rintro e w1 ⟨rfl, rfl⟩
      go_wp2_with fail
      go_ret
      rw [HV.out]
      exact ⟨rfl, H.out.did⟩
    · have heq := eqp_some b w
      have hnn : ¬ numD S.Dn s = -1 := by rw [hn]; omega
      by_cases hro : wrap64 (S.d.cap - S.d.used) < (m.length : Int)
      · have HV : Hid (appendS s m S = (4, S)) := by show _ = _; unfold appendS; rw [if_neg (by simp [hl]), if_neg hnn, if_pos hro]
        obtain ⟨R, hR⟩ : ∃ R, wrap64 (S.d.cap - S.d.used) = R := ⟨_, rfl⟩
        rw [hR] at hroom hro
        clear hl hn hnn hi hR
        go_enter Try.func18, Try.ntmps18
        go_wp2_with fail
        (with_reducible refine hp.mono ?_)
        rintro e w1 ⟨rfl, rfl⟩
        go_wp2_with fail
        (with_reducible refine hroom.mono ?_)
        rintro e w0 ⟨rfl, b0, z0⟩
        have HB0 := Lib.hid b0
        clear b0 z0
        go_wp2_with fail
        go_ret
        rw [HV.out]
        exact ⟨rfl, g, H.out.later HB0.out, Fr.of_below HB0.out, fun _ h => .inl h⟩
      · obtain ⟨R, hR⟩ : ∃ R, wrap64 (S.d.cap - S.d.used) = R := ⟨_, rfl⟩
        have HRO : Hid (¬ wrap64 (S.d.cap - S.d.used) < (m.length : Int)) := hro
        rw [hR] at hroom hro
        clear hR
        have HI := Lib.hid (And.intro hi (And.intro hn (And.intro hl hnn)))
        clear hi hn hl hnn
        go_enter Try.func18, Try.ntmps18
        go_wp2_with fail
        (with_reducible refine hp.mono ?_)
        rintro e w1 ⟨rfl, rfl⟩
        go_wp2_with fail
        (with_reducible refine hroom.mono ?_)
        rintro e w0 ⟨rfl, b0, z0⟩
        have H0 := Lib.hid (H.out.later b0)
        have HB0 := Lib.hid b0
        have hq := pass_rep H0.out
        clear b0 z0 hp hroom c2 hr heq
        rcases passD_cases S.d with e0 | e0 | e0
        all_goals rw [e0] at hq
        · skip
          skip
          have HV : Hid (appendS s m S = (0, growS i m (passS S))) := by show _ = _; unfold appendS; rw [if_neg (by simp [HI.out.2.2.1]), if_neg HI.out.2.2.2, if_neg (by simpa using HRO.out), if_neg (by rw [e0]; decide), e0, if_neg (by decide), HI.out.2.1]; rfl
          skip
          clear e0
          go_wp2_with fail
          (with_reducible refine hq.mono ?_)
          rintro e w1 ⟨rfl, h1, o1⟩
          have F1 : Hid (Fr (Foot B g) w w1) := (Fr.of_below HB0.out : Fr (Foot B g) w w0).trans (Fr.of_only o1 (.inl rfl))
          have HL1 := Lib.hid (HSL.out.fr F1.out HFAR.out)
          have HLM : Hid (Sl w1 ga gc m) := HL1.out
          have HLN : True := trivial
          have hszi := HSZ.out i
          obtain ⟨_, _, _, v, _, ho, hb⟩ : FileAt w1 b (g.rb i) (S.F i) := h1.files b i HI.out.1
          have k0 : w1.cell? ⟨b, 0, none⟩ = some v := by rw [cell_of_row w1 b 0 _ _ (0, 0) hb]; rfl
          have HO := Lib.hid ho
          have HG : Hid (∀ w2 v', w2.ownsRow 0 5 1 v' ((S.F i).bytes.length + m.length) ((S.F i).bytes.map byteD ++ m.map byteD) → w1.grownBy w2 v.ownBlock → (v'.ownBlock = v.ownBlock ∨ v'.ownBlock = some w1.heap.size) →
              DkAt (w2.setCell ⟨b, 0, none⟩ v') B (g.on (passS S).d) ∧ ∀ w4, DkAt w4 B (g.on { (passS S).d with used := wrap64 ((passS S).d.used + m.length) }) → Only B (w2.setCell ⟨b, 0, none⟩ v') w4 → Did B (growS i m (passS S)) g w1 w4) :=
            fun w2 v' r1 r2 r3 => h1.grow HI.out.1 hb m (fun n hn => HSL.out.byte n hn) (by show (S.F i).bytes.length + m.length ≤ 1000000; omega) r1 r2 r3
          have HB1 : Hid (w1.heap[b]? = some (.cells #[v, .int .i64 ((S.F i).safe : Int)] 69 (0, 0))) := hb
          have HVB : Hid (∀ r, v.ownBlock = some r → r ≠ b) := fun r hr e => by
            rcases ho.2 with ⟨h0, _⟩ | ⟨gr, cap, cur, hv, _, hg, _⟩
            · rw [h0] at hr; cases hr
            · rw [hv] at hr
              have : gr = r := Option.some.inj hr
              rw [this, e, hb] at hg; cases hg
          obtain ⟨a0, c0, rfl, -, -⟩ := own_shape ho
          have hzb : (S.F i).bytes.length + m.length ≤ 1000000 := by omega
          have HZB := Lib.hid hzb
          clear h1 o1 hb ho hq hzb hszi
          go_upto_region 15 with fail
          go_upto_region 16 with (at_builtin; refine wpList_appB _ rfl _ _ rfl _ (S.F i).bytes.length _ rfl HO.out ga gc m rfl HLM.out HZB.out ?_; intro v' w2 hown2 hgr2 hown3; obtain ⟨a', c', rfl, -, -⟩ := own_shape hown2; have HD := Lib.hid (HG.out w2 _ hown2 hgr2 hown3); have hb2 := (hgr2.block b (blk_lt HB1.out) (fun e => HVB.out b e.symm rfl)).trans HB1.out; have k0' : w2.cell? ⟨b, 0, none⟩ = some (.slice a0 (S.F i).bytes.length c0) := (by rw [cell_of_row w2 b 0 _ _ (0, 0) hb2]; rfl); have f0' := unfrozen_of_block hb2 0; clear hown2 hgr2 hown3 hb2 HG HB1 HVB HO k0)
          have D2 := HD.out.1
          have c1 : (w2.setCell ⟨b, 0, none⟩ (.slice a' ((S.F i).bytes.length + m.length) c')).cell? ⟨B, 1, none⟩ = some (.int .i64 (passS S).d.used) := by rw [D2.cell]; simp [Dk.cells, Gh.on]
          have f1 := D2.loose 1
          have ok := D2.ok
          have DD := Lib.hid (Did.step F1.out (HD.out.2 _ (D2.set 1 (.int .i64 (wrap64 ((passS S).d.used + (m.length : Int)))) ⟨ok.cap1, ok.cap2, (wrap_range _).1, (wrap_range _).2, ok.fl1, ok.fl2, ok.gl1, ok.gl2, ok.len⟩ (by simp [Dk.cells, Gh.on])) (Only.set _ _ _ _)))
          skip
          clear D2 ok HD
          go_wp2_with fail
          go_ret
          rw [HV.out]
          exact ⟨rfl, DD.out⟩
        · skip
          obtain ⟨mm, hmm⟩ : ∃ mm, m.take (m.length / 2) = mm := ⟨_, rfl⟩
          have HV : Hid (appendS s m S = (6, growS i mm (passS S))) := by show _ = _; unfold appendS; rw [if_neg (by simp [HI.out.2.2.1]), if_neg HI.out.2.2.2, if_neg (by simpa using HRO.out), if_neg (by rw [e0]; decide), e0, if_pos rfl, HI.out.2.1, hmm]; rfl
          have HMM := Lib.hid hmm; clear hmm
          clear e0
          go_wp2_with fail
          (with_reducible refine hq.mono ?_)
          rintro e w1 ⟨rfl, h1, o1⟩
          have F1 : Hid (Fr (Foot B g) w w1) := (Fr.of_below HB0.out : Fr (Foot B g) w w0).trans (Fr.of_only o1 (.inl rfl))
          have HL1 := Lib.hid (HSL.out.fr F1.out HFAR.out)
          have HLM : Hid (Sl w1 ga gc mm) := by show Sl w1 ga gc mm; rw [← HMM.out]; exact HL1.out.take _
          have HLN : Hid (mm.length = m.length / 2) := by show _ = _; rw [← HMM.out, List.length_take]; omega
          have hszi := HSZ.out i
          obtain ⟨_, _, _, v, _, ho, hb⟩ : FileAt w1 b (g.rb i) (S.F i) := h1.files b i HI.out.1
          have k0 : w1.cell? ⟨b, 0, none⟩ = some v := by rw [cell_of_row w1 b 0 _ _ (0, 0) hb]; rfl
          have HO := Lib.hid ho
          have HG : Hid (∀ w2 v', w2.ownsRow 0 5 1 v' ((S.F i).bytes.length + mm.length) ((S.F i).bytes.map byteD ++ mm.map byteD) → w1.grownBy w2 v.ownBlock → (v'.ownBlock = v.ownBlock ∨ v'.ownBlock = some w1.heap.size) →
              DkAt (w2.setCell ⟨b, 0, none⟩ v') B (g.on (passS S).d) ∧ ∀ w4, DkAt w4 B (g.on { (passS S).d with used := wrap64 ((passS S).d.used + mm.length) }) → Only B (w2.setCell ⟨b, 0, none⟩ v') w4 → Did B (growS i mm (passS S)) g w1 w4) :=
            fun w2 v' r1 r2 r3 => h1.grow HI.out.1 hb mm (fun n hn => HSL.out.byte n (List.mem_of_mem_take (by rw [HMM.out]; exact hn))) (by show (S.F i).bytes.length + mm.length ≤ 1000000; have := HLN.out; omega) r1 r2 r3
          have HB1 : Hid (w1.heap[b]? = some (.cells #[v, .int .i64 ((S.F i).safe : Int)] 69 (0, 0))) := hb
          have HVB : Hid (∀ r, v.ownBlock = some r → r ≠ b) := fun r hr e => by
            rcases ho.2 with ⟨h0, _⟩ | ⟨gr, cap, cur, hv, _, hg, _⟩
            · rw [h0] at hr; cases hr
            · rw [hv] at hr
              have : gr = r := Option.some.inj hr
              rw [this, e, hb] at hg; cases hg
          obtain ⟨a0, c0, rfl, -, -⟩ := own_shape ho
          have hzb : (S.F i).bytes.length + mm.length ≤ 1000000 := by have := HLN.out; omega
          have HZB := Lib.hid hzb
          clear h1 o1 hb ho hq hzb hszi
          go_upto_region 15 with fail
          go_upto_region 16 with (at_builtin; refine wpList_appB _ rfl _ _ rfl _ (S.F i).bytes.length _ rfl HO.out ga gc mm (by rw [HLN.out]; rfl) HLM.out HZB.out ?_; intro v' w2 hown2 hgr2 hown3; obtain ⟨a', c', rfl, -, -⟩ := own_shape hown2; have HD := Lib.hid (HG.out w2 _ hown2 hgr2 hown3); have hb2 := (hgr2.block b (blk_lt HB1.out) (fun e => HVB.out b e.symm rfl)).trans HB1.out; have k0' : w2.cell? ⟨b, 0, none⟩ = some (.slice a0 (S.F i).bytes.length c0) := (by rw [cell_of_row w2 b 0 _ _ (0, 0) hb2]; rfl); have f0' := unfrozen_of_block hb2 0; clear hown2 hgr2 hown3 hb2 HG HB1 HVB HO k0)
          have D2 := HD.out.1
          have c1 : (w2.setCell ⟨b, 0, none⟩ (.slice a' ((S.F i).bytes.length + mm.length) c')).cell? ⟨B, 1, none⟩ = some (.int .i64 (passS S).d.used) := by rw [D2.cell]; simp [Dk.cells, Gh.on]
          have f1 := D2.loose 1
          have ok := D2.ok
          have DD := Lib.hid (Did.step F1.out (HD.out.2 _ (D2.set 1 (.int .i64 (wrap64 ((passS S).d.used + (mm.length : Int)))) ⟨ok.cap1, ok.cap2, (wrap_range _).1, (wrap_range _).2, ok.fl1, ok.fl2, ok.gl1, ok.gl2, ok.len⟩ (by simp [Dk.cells, Gh.on])) (Only.set _ _ _ _)))
          rw [show (mm.length : Int) = (m.length : Int) / 2 by rw [HLN.out]; simp] at DD
          clear D2 ok HD
          go_wp2_with fail
          go_ret
          rw [HV.out]
          exact ⟨rfl, DD.out⟩
        · have HV : Hid (appendS s m S = (10, passS S)) := by show _ = _; unfold appendS; rw [if_neg (by simp [HI.out.2.2.1]), if_neg HI.out.2.2.2, if_neg (by simpa using HRO.out), if_pos e0]
          clear e0
          go_wp2_with fail
          (with_reducible refine hq.mono ?_)
          rintro e w1 ⟨rfl, h1, o1⟩
          have D1 : Hid (Did B (passS S) g w w1) := ⟨g, h1, (Fr.of_below HB0.out : Fr (Foot B g) w w0).trans (Fr.of_only o1 (.inl rfl)), fun _ h => .inl h⟩
          clear h1 o1
          go_wp2_with fail
          go_ret
          rw [HV.out]
          exact ⟨rfl, D1.out⟩
end Go.Proofs.Ytoiggdcgfbjhpaa
