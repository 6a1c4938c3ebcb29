/-
  Package dense's echelon, walked.
-/
import Derived.Test.YtiglmoggpjgmbaaEchSt
import Derived.Deep.DeepCutAuto
namespace Go.Proofs.Ytiglmoggpjgmbaa
open Go.ChangeShapes Go.WideShapes Go.ChangeAt Go.RowKit Go.Joins
set_option linter.unusedVariables false

def allZ (zs : List Ln) : Bool := zs.all fun z => zeroB z.right
def EchPost2 (M N : Nat) (W0 : World) (ps : List (LV × Ln)) (e : Ending) (w' : World) : Prop :=
  ∃ v ys zs, e = .returned (.tuple #[v, .bool (allZ zs)]) ∧ ESt M N W0 ps ps.length ps.length w' v ys zs

set_option maxRecDepth 100000 in
set_option maxHeartbeats 4000000 in
theorem echelon_any (M N B0 g : Nat) (ps : List (LV × Ln)) (W0 : World) (hblk : W0.heap[g]? = some (.cells (enc3 (ps.map (·.1))).toArray 48 (0, 0))) (L : Lns B0 W0 ps) (hn : ps.length ≤ 1000) (hM : M ≤ 1000) (hN : N ≤ 1000)
    (hok : ∀ p ∈ ps, OkL M p.2) (hlen : ∀ p ∈ ps, p.2.row.length ≤ N) (hup : (ps.map fun p => p.2.row.length).Pairwise (· ≤ ·)) :
    Calls Try.prog 18 #[.slice (some ⟨g, 0, none⟩) ps.length ps.length] W0 (EchPost2 M N W0 ps) := by
  have HBK := Lib.hid hblk
  have HL := Lib.hid L
  have HOK := Lib.hid hok
  have HLE := Lib.hid hlen
  have HUP : Hid (∀ i j (hi : i < ps.length) (hj : j < ps.length), i < j → ps[i].2.row.length ≤ ps[j].2.row.length) := fun i j hi hj hij => by
    have := (List.pairwise_iff_getElem.1 hup) i j (by simpa using hi) (by simpa using hj) hij
    simpa using this
  have E0 := Lib.hid (ESt.start M N W0 ps)
  have mixed : Try.prog.follows .mixedOrders = true := by kernel_rfl
  clear hblk L hok hlen hup
  go_enter Try.func18, Try.ntmps18
  go_wp2_with fail
  go_loopg [2, 3, 12] (ps.length) (fun gg v2 v3 v12 wr => ∃ (k : Nat) (vv : Value) (ys : List (LV × St)) (zs : List Ln), k ≤ ps.length ∧ ps.length - k ≤ gg ∧ v2 = vv ∧ v3 = .bool (allZ zs) ∧ v12 = .int .i64 k ∧ Hid (ESt M N W0 ps k k wr vv ys zs))
  case atStart => exact ⟨0, _, [], [], by omega, by omega, rfl, rfl, rfl, E0⟩
  case round =>
    clear E0
    obtain ⟨k, vv, ys, zs, hk, hgg, hvv, rfl, rfl, HE⟩ := hrel
    subst hvv
    by_cases hlt : k < ps.length
    · have hltz : (k : Int) < (ps.length : Int) := by omega
      have hCk : Cells3 wr g (k * 3) 48 (enc3 (ps.map (·.1))).toArray ps[k].1 := by
        obtain ⟨e0, e1, e2⟩ := enc3_get (xs := ps.map (·.1)) (i := k) (by simpa using hlt)
        simp only [List.getElem_map] at e0 e1 e2
        exact ⟨HE.out.whole HL.out HBK.out, by simpa using e0, by simpa using e1, by simpa using e2⟩
      obtain ⟨k0, k1, k2⟩ := hCk.cell
      clear hCk
      obtain ⟨x, hx⟩ : ∃ x, x = ps[k].1 := ⟨_, rfl⟩
      rw [← hx] at k0 k1 k2
      have HX := Lib.hid hx
      clear hx
      have hxl : LineAt wr x ps[k].2 := by rw [HX.out]; exact HE.out.line HL.out hlt (Nat.le_refl _)
      have hx1 : x.rb < W0.heap.size ∧ x.gb < W0.heap.size := by rw [HX.out]; exact HL.out.lt _ (List.getElem_mem hlt)
      have hx2 : x.gb ≠ x.rb := by rw [HX.out]; exact HL.out.rights _ (List.getElem_mem hlt) _ (List.getElem_mem hlt)
      have hin : ∃ p ∈ ps.take (k + 1), x.rb = p.1.rb := ⟨ps[k], by rw [take_snoc' hlt]; exact List.mem_append_right _ (List.mem_singleton.2 rfl), by rw [HX.out]⟩
      have HIN := Lib.hid hin
      have okk := HOK.out _ (List.getElem_mem hlt)
      have lenk := HLE.out _ (List.getElem_mem hlt)
      have HOKK := Lib.hid okk
      have HLONG : Hid (∀ j (hj : j < ps.length), j < k → ps[j].2.row.length ≤ ps[k].2.row.length) := fun j hj hjk => HUP.out j k hj hlt hjk
      have hsz0 : W0.heap.size ≤ wr.heap.size := HE.out.fr.size
      obtain ⟨Bx, hBx⟩ : ∃ Bx, Bx = wr.heap.size := ⟨_, rfl⟩
      have HW1 : Hid (∃ cs, Work (wr.alloc (.cells #[.slice (some ⟨x.rb, 0, none⟩) x.rl x.rl, .slice (some ⟨x.gb, 0, none⟩) x.gl x.gl, .int .i64 x.ld] 48)) Bx x x.rb ps[k].2 cs) := by
        rw [hBx]
        exact ⟨_, ⟨heap_alloc_last wr _, rfl, rfl, rfl⟩, hxl.below ((Below.refl _ _).alloc (Nat.le_refl _) _), rfl, hx2⟩
      have HE1 : Hid (ESt M N W0 ps k (k + 1) (wr.alloc (.cells #[.slice (some ⟨x.rb, 0, none⟩) x.rl x.rl, .slice (some ⟨x.gb, 0, none⟩) x.gl x.gl, .int .i64 x.ld] 48)) u2 ys zs) :=
        HE.out.later HL.out (Nat.le_succ k) (Fr.of_below ((Below.refl _ _).alloc (Nat.le_refl _) _))
      have hov : Hid (u2.ownBlock ≠ some Bx) := by rw [hBx]; exact own_ne_new HE.out.own
      have hsz1 : W0.heap.size ≤ Bx := by rw [hBx]; exact hsz0
      obtain ⟨a, cap, rfl, hc1, hc2, -, -⟩ := own_form HE.out.own
      have hc1 : cap ≤ 9223372036854775807 := by unfold maxLen at hc1; omega
      have hysN : ys.length ≤ 1000 := by have := HE.out.inv.few; rw [List.length_map] at this; omega
      clear hxl hin okk HE hsz0
      go_upto_region 5 with fail
      rw [← hBx]
      generalize wr.alloc (.cells #[.slice (some ⟨x.rb, 0, none⟩) x.rl x.rl, .slice (some ⟨x.gb, 0, none⟩) x.gl x.gl, .int .i64 x.ld] 48) = w1 at *
      clear hBx k0 k1 k2
      go_wp2_with fail
      go_loopg [18] (ys.length) (fun gg v18 wi => ∃ (j : Nat) (xj : LV) (cs : Array Value), j ≤ ys.length ∧ ys.length - j ≤ gg ∧ v18 = .int .i64 j ∧ Hid (Work wi Bx xj x.rb (runAll ps[k].2 ((ys.take j).map (·.2))) cs) ∧ Hid (ESt M N W0 ps k (k + 1) wi (.slice a ys.length cap) ys zs))
      case atStart =>
        obtain ⟨cs, hW⟩ := HW1.out
        exact ⟨0, x, cs, by omega, by omega, rfl, hW, HE1⟩
      case round =>
        clear HW1 HE1
        obtain ⟨j, xj, cs, hj, hgj, rfl, HW, HE⟩ := hrel
        by_cases hlj : j < ys.length
        · have hljz : (j : Int) < (ys.length : Int) := by omega
          obtain ⟨a2, cap2, ea, -, -, hLS, -⟩ := own_form HE.out.own
          cases ea
          obtain ⟨Bs, cur, rfl, hSB⟩ := hLS.some (k := j) (by simpa using hlj)
          have hcj := hSB.cells j (by simpa using hlj)
          simp only [List.getElem_map] at hcj
          obtain ⟨s0, s1, s2⟩ := hcj.cell
          clear hcj hSB hLS
          obtain ⟨q1, q2, q3, q4⟩ := HE.out.steps _ (List.getElem_mem hlj)
          have hos : OkS M N ys[j].2 := HE.out.inv.okS _ (List.mem_map.2 ⟨ys[j], List.getElem_mem hlj, rfl⟩)
          have hok1 := runAll_len HOKK.out (t := (ys.take j).map (·.2)) (fun s hs => by
            obtain ⟨y, hy, rfl⟩ := List.mem_map.1 hs
            exact HE.out.inv.okS _ (List.mem_map.2 ⟨y, List.mem_of_mem_take hy, rfl⟩))
          have hll : ys[j].2.1.row.length ≤ ps[k].2.row.length := by
            obtain ⟨d, hd, e⟩ := HE.out.inv.long _ (List.mem_map.2 ⟨ys[j], List.getElem_mem hlj, rfl⟩)
            rw [e]
            obtain ⟨q, hq, rfl⟩ := List.mem_map.1 hd
            obtain ⟨t, ht, rfl⟩ := List.getElem_of_mem hq
            rw [List.length_take] at ht
            rw [List.getElem_take]
            exact HLONG.out t (by omega) (by omega)
          have hnext : runAll ps[k].2 ((ys.take (j + 1)).map (·.2)) = cancelN (runAll ps[k].2 ((ys.take j).map (·.2))) ys[j].2 := by
            rw [take_snoc' hlj, List.map_append]; exact runAll_snoc _ _ _
          obtain ⟨s, hs⟩ : ∃ s, s = ys[j].1 := ⟨_, rfl⟩
          rw [← hs] at s0 s1 s2 q1 q2 q3 q4
          have HNX := Lib.hid hnext
          have HCA : Hid (∀ w, Below wr.heap.size wr w → Calls Try.prog 24 #[.pointer (some ⟨Bx, 0, none⟩), .agg #[.slice (some ⟨s.rb, 0, none⟩) s.rl s.rl, .slice (some ⟨s.gb, 0, none⟩) s.gl s.gl, .int .i64 s.ld]] w (CanPost w Bx 0 48 cs xj (cancelN (runAll ps[k].2 ((ys.take j).map (·.2))) ys[j].2))) := fun w hb => by
            have W := HW.out.below hb
            refine cancel_any w Bx 0 _ cs xj s _ ys[j].2.1 ys[j].2.2 M W.cells W.line (q1.below hb) q2 hok1.2 hos.ok hos.lt ?_ (fun t ht => ahead hos ht) ?_ hM ?_ ?_
            · rw [hok1.1]; exact hll
            · rw [hok1.1]; omega
            · rw [W.rb]; exact W.ne
            · rw [W.rb]; omega
          clear hos hok1 hll hnext hs q1 q2 q3 q4
          go_upto_region 8 with fail
          have HB2 := Lib.hid ((Below.refl wr.heap.size wr).alloc (Nat.le_refl _) (.cells #[.slice (some ⟨s.rb, 0, none⟩) s.rl s.rl, .slice (some ⟨s.gb, 0, none⟩) s.gl s.gl, .int .i64 s.ld] 48))
          go_wp2_with fail
          (with_reducible refine (HCA.out _ HB2.out).mono ?_)
          rintro e w2 ⟨gn, rfl, c3, l3, f3, g3⟩
          have HW2 := Lib.hid (HW.out.below HB2.out)
          have HE2 := Lib.hid (HE.out.below HL.out HB2.out)
          generalize wr.alloc (.cells #[.slice (some ⟨s.rb, 0, none⟩) s.rl s.rl, .slice (some ⟨s.gb, 0, none⟩) s.gl s.gl, .int .i64 s.ld] 48) = wa at *
          have HW3 : Hid (∃ cs', Work w2 Bx (xj.right gn) x.rb (runAll ps[k].2 ((ys.take (j + 1)).map (·.2))) cs') := by
            refine ⟨_, c3, ?_, HW2.out.rb, ?_⟩
            · rw [HNX.out]; exact l3
            · show gn ≠ x.rb
              rcases g3 with rfl | g3
              · exact HW2.out.ne
              · have := HE2.out.fr.size; omega
          have HE3 : Hid (ESt M N W0 ps k (k + 1) w2 (.slice (some ⟨Bs, 0, none⟩) ys.length cap) ys zs) :=
            HE2.out.boxed HL.out (Nat.le_refl _) HW2.out.cells hsz1 hov.out (f3.mono fun b _ e => by
              rcases e with e | e
              · exact .inr e
              · left
                obtain ⟨p, hp, e2⟩ := HIN.out
                exact ⟨p, hp, by rw [e, HW2.out.rb, e2]⟩)
          clear HCA HB2 c3 l3 f3 g3 HW2 HE2 HW HE s0 s1 s2 HNX
          go_wp2_with fail
          go_roundg (ys.length - (j + 1))
          case measure => omega
          case rel =>
            obtain ⟨cs', hW⟩ := HW3.out
            exact ⟨j + 1, _, cs', by omega, Nat.le_refl _, by first | rfl | go_num | (congr 1; omega), hW, HE3⟩
        · obtain rfl : j = ys.length := by omega
          have hltq : ¬ (ys.length : Int) < (ys.length : Int) := by omega
          rw [List.take_length] at HW
          obtain ⟨l, hl⟩ : ∃ l, l = runAll ps[k].2 (ys.map (·.2)) := ⟨_, rfl⟩
          have okl := runAll_len HOKK.out (t := ys.map (·.2)) (fun s hs => HE.out.inv.okS s hs)
          rw [← hl] at HW okl
          have HLL := Lib.hid hl
          have hlr : l.row.length = ps[k].2.row.length := okl.1
          have hlm : l.row.length ≤ 1000 := by omega
          have hgm : l.right.length ≤ 1000 := by rw [okl.2.len]; exact hM
          have HOKL := Lib.hid okl.2
          obtain ⟨k0, k1, k2⟩ := HW.out.cells.cell
          have hf2 := HW.out.cells.loose 2
          have hsl : Sl wr (some ⟨xj.rb, 0, none⟩) xj.rl l.row := by
            have := HW.out.line.row.sl HOKL.out.row (by omega)
            rwa [← HW.out.line.rl] at this
          have hxrl := HW.out.line.rl
          have HXRL := Lib.hid hxrl
          have HSL := Lib.hid hsl
          have HLR := Lib.hid hlr
          have hBlt : Bx < wr.heap.size := HW.out.cells.lt
          simp only [Nat.zero_add] at k1 k2
          clear hl okl hlr hsl hxrl
          by_cases hz : ∀ j, j < l.row.length → l.row.getD j 0 = 0
          · have hix := index_none (some ⟨xj.rb, 0, none⟩) xj.rl l.row wr HSL.out hz
            rw [← HXRL.out] at hix
            have HZ := Lib.hid hz
            have HW4 : Hid (LineAt wr xj l) := HW.out.line
            have HE4 : Hid (ESt M N W0 ps (k + 1) (k + 1) (wr.setCell ⟨Bx, 2, none⟩ (.int .i64 (-1))) (.slice a ys.length cap) ys (zs ++ [l])) := by
              have h1 := HE.out.boxed (wr' := wr.setCell ⟨Bx, 2, none⟩ (.int .i64 (-1))) HL.out (Nat.le_refl _) HW.out.cells hsz1 hov.out ((Fr.refl _ wr).set (p := ⟨Bx, 2, none⟩) (fun _ => .inr rfl) _)
              have h2 := h1.zero hlt HOKK.out lenk HLONG.out (by
                rw [← HLL.out]
                funext j
                refine (toV_zero HOKL.out.row).2 ?_
                by_cases hj : j < l.row.length
                · exact HZ.out j hj
                · exact getD_high (by omega))
              rwa [← HLL.out] at h2
            have HG4 : Hid (Sl (wr.setCell ⟨Bx, 2, none⟩ (.int .i64 (-1))) (some ⟨xj.gb, 0, none⟩) xj.gl l.right) := by
              have hb := HW.out.line.right.set (p := ⟨Bx, 2, none⟩) (Ne.symm (HW.out.cells.ne HW.out.line.right)) (.int .i64 (-1))
              have := hb.sl HOKL.out.right (by omega)
              rwa [← HW.out.line.gl] at this
            have hgl : Hid (xj.gl = l.right.length) := HW.out.line.gl
            have c1 : (wr.setCell ⟨Bx, 2, none⟩ (.int .i64 (-1))).cell? ⟨Bx, 1, none⟩ = some (.slice (some ⟨xj.gb, 0, none⟩) xj.gl xj.gl) := by
              have := (HW.out.cells.set2 (-1)).cell.2.1
              simpa [LV.lead] using this
            have c2 : (wr.setCell ⟨Bx, 2, none⟩ (.int .i64 (-1))).cell? ⟨Bx, 2, none⟩ = some (.int .i64 (-1)) := by
              have := (HW.out.cells.set2 (-1)).cell.2.2
              simpa [LV.lead] using this
            have HZS : Hid (allZ (zs ++ [l]) = (allZ zs && zeroB l.right)) := by show _ = _; simp [allZ]
            obtain ⟨b, hb⟩ : ∃ b, b = allZ zs := ⟨_, rfl⟩
            rw [← hb] at HZS ⊢
            have hzr := fun w' (h : Sl w' (some ⟨xj.gb, 0, none⟩) xj.gl l.right) => zero_any (some ⟨xj.gb, 0, none⟩) xj.gl l.right w' h
            rw [← hgl.out] at hzr
            have hzr4 := hzr _ HG4.out
            clear hzr hb HW HE hz
            go_upto_region 11 with ((with_reducible refine hix.mono ?_); rintro e w' ⟨rfl, rfl⟩)
            generalize wr.setCell ⟨Bx, 2, none⟩ (.int .i64 (-1)) = w4 at *
            clear hix k0 k1 k2 hf2
            cases b with
            | true =>
              go_wp2_with ((with_reducible refine hzr4.mono ?_); rintro e w' ⟨rfl, rfl⟩)
              go_roundg (ps.length - (k + 1))
              case measure => omega
              case rel => exact ⟨k + 1, _, ys, zs ++ [l], by omega, Nat.le_refl _, rfl, by rw [HZS.out]; rfl, by first | rfl | go_num | (congr 1; omega), HE4⟩
            | false =>
              go_wp2_with fail
              go_roundg (ps.length - (k + 1))
              case measure => omega
              case rel => exact ⟨k + 1, _, ys, zs ++ [l], by omega, Nat.le_refl _, rfl, by rw [HZS.out]; rfl, by first | rfl | go_num | (congr 1; omega), HE4⟩
          · obtain ⟨p, hp, hnz, hfz⟩ : ∃ p, p < l.row.length ∧ l.row.getD p 0 ≠ 0 ∧ ∀ j, j < p → l.row.getD j 0 = 0 := by
              have hex : ∃ j, j < l.row.length ∧ toV l.row j ≠ GF.zero := by
                by_cases h : ∃ j, j < l.row.length ∧ toV l.row j ≠ GF.zero
                · exact h
                · refine absurd (fun j hj => ?_) hz
                  rcases GF.em (toV l.row j) with e | e
                  · exact (toV_zero HOKL.out.row).1 e
                  · exact absurd ⟨j, hj, e⟩ h
              obtain ⟨p, h1, h2⟩ := lead_below l.row.length hex
              exact ⟨p, h1, fun e => h2.1 ((toV_zero HOKL.out.row).2 e), fun j hj => (toV_zero HOKL.out.row).1 (h2.2 j hj)⟩
            have hix := index_some (some ⟨xj.rb, 0, none⟩) xj.rl l.row p wr HSL.out hp hnz hfz
            rw [← HXRL.out] at hix
            have HP := Lib.hid (And.intro hp (And.intro hnz hfz))
            have hpz : ¬ (p : Int) < 0 := by omega
            have hp9 : p ≤ 1000 := by omega
            have HE4 : Hid (ESt M N W0 ps k (k + 1) (wr.setCell ⟨Bx, 2, none⟩ (.int .i64 (p : Int))) (.slice a ys.length cap) ys zs) :=
              HE.out.boxed HL.out (Nat.le_refl _) HW.out.cells hsz1 hov.out ((Fr.refl _ wr).set (p := ⟨Bx, 2, none⟩) (fun _ => .inr rfl) _)
            have HC4 := Lib.hid (HW.out.cells.set2 (p : Int))
            have HX4 : Hid (LineAt (wr.setCell ⟨Bx, 2, none⟩ (.int .i64 (p : Int))) (xj.lead (p : Int)) l) :=
              ⟨HW.out.line.row.set (p := ⟨Bx, 2, none⟩) (Ne.symm (HW.out.cells.ne HW.out.line.row)) _, HW.out.line.rl, HW.out.line.right.set (p := ⟨Bx, 2, none⟩) (Ne.symm (HW.out.cells.ne HW.out.line.right)) _, HW.out.line.gl⟩
            have c2 : (wr.setCell ⟨Bx, 2, none⟩ (.int .i64 (p : Int))).cell? ⟨Bx, 2, none⟩ = some (.int .i64 (p : Int)) := by
              have := HC4.out.cell.2.2
              simpa [LV.lead] using this
            clear hp hnz hfz hz HW HE
            go_upto_region 11 with ((with_reducible refine hix.mono ?_); rintro e w' ⟨rfl, rfl⟩)
            simp only [Nat.zero_add] at HC4
            generalize wr.setCell ⟨Bx, 2, none⟩ (.int .i64 (p : Int)) = w4 at *
            clear hix k0 k1 k2 hf2
            have hsc := scale_line w4 Bx 0 _ _ _ l p M HC4.out HX4.out rfl HOKL.out HP.out.1 hlm hM
            have hlt4 : Bx < w4.heap.size := HC4.out.lt
            go_wp2_with fail
            (with_reducible refine hsc.mono ?_)
            rintro e w5 ⟨rn, gn, cs5, rfl, c5, z5, l5, f5, r5, g5⟩
            have HE5 : Hid (ESt M N W0 ps k (k + 1) w5 (.slice a ys.length cap) ys zs) := HE4.out.boxed HL.out (Nat.le_refl _) HC4.out hsz1 hov.out (f5.mono fun b _ e => .inr e)
            have HC5 := Lib.hid c5
            have HL5 := Lib.hid l5
            have hrn : W0.heap.size ≤ rn := by have := HE4.out.fr.size; omega
            have hgn : W0.heap.size ≤ gn := by omega
            obtain ⟨y, hy⟩ : ∃ y, y = (xj.lead (p : Int)).both rn gn := ⟨_, rfl⟩
            rw [← hy] at HC5 HL5
            have HY : Hid (y.ld = (p : Int) ∧ y.rb = rn ∧ y.gb = gn) := by rw [hy]; exact ⟨rfl, rfl, rfl⟩
            clear hsc HE4 HC4 HX4 c2 c5 z5 l5 f5 r5 g5 hy
            obtain ⟨k0, k1, k2⟩ := HC5.out.cell
            simp only [Nat.zero_add] at k1 k2
            rw [HY.out.1] at k2
            obtain ⟨a5, cap5, ea, -, -, hLS, -⟩ := own_form HE5.out.own
            cases ea
            have hsk := seek_any a cap (ys.map (·.1)) (p : Int) w5 hLS (by rw [List.length_map]; exact hysN) (by
              have := HE5.out.inv.up
              rw [List.pairwise_map, List.pairwise_map] at this
              rw [List.pairwise_map, List.pairwise_map]
              refine this.imp_of_mem fun {u v} hu hv h => ?_
              have h1 := (HE5.out.steps u hu).2.1
              have h2 := (HE5.out.steps v hv).2.1
              omega)
            rw [List.length_map] at hsk
            clear hLS
            go_wp2_with fail
            (with_reducible refine hsk.mono ?_)
            rintro e w6 ⟨i, bb, rfl, hi, hi1, hi2, b6⟩
            rw [List.length_map] at hi
            have HI := Lib.hid (And.intro hi1 hi2)
            have HE6 := Lib.hid (HE5.out.below HL.out b6)
            have HC6 := Lib.hid (HC5.out.below b6)
            have HL6 := Lib.hid (HL5.out.below b6)
            have q0 := (b6.cell (p := ⟨Bx, 0, none⟩) HC5.out.lt).trans k0
            have q1 := (b6.cell (p := ⟨Bx, 1, none⟩) HC5.out.lt).trans k1
            have q2 := (b6.cell (p := ⟨Bx, 2, none⟩) HC5.out.lt).trans k2
            clear hsk hi1 hi2 b6 HE5 HC5 HL5 k0 k1 k2
            go_upto_region 15 with fail
            have HB7 := Lib.hid ((Below.refl w6.heap.size w6).alloc (Nat.le_refl _) (.cells #[.slice (some ⟨y.rb, 0, none⟩) y.rl y.rl, .slice (some ⟨y.gb, 0, none⟩) y.gl y.gl, .int .i64 (p : Int)] 48))
            have HE7 := Lib.hid (HE6.out.below HL.out HB7.out)
            have hins : Calls Try.prog 32 #[.slice a ys.length cap, .int .i64 (i : Int), .slice (some ⟨w6.heap.size, 0, none⟩) 1 1] (w6.alloc (.cells #[.slice (some ⟨y.rb, 0, none⟩) y.rl y.rl, .slice (some ⟨y.gb, 0, none⟩) y.gl y.gl, .int .i64 (p : Int)] 48)) (InsPost W0.heap.size (.slice a ys.length cap) (ys.map (·.1)) i y (w6.alloc (.cells #[.slice (some ⟨y.rb, 0, none⟩) y.rl y.rl, .slice (some ⟨y.gb, 0, none⟩) y.gl y.gl, .int .i64 (p : Int)] 48))) := by
              refine insert_any W0.heap.size _ (ys.map (·.1)) i y w6.heap.size _ ?_ ?_ (by rw [List.length_map]; exact hysN) (by rw [List.length_map]; exact hi) ?_ (own_ne_new HE6.out.own)
              · rw [List.length_map]; exact HE7.out.own
              · exact HE7.out.fr.size
              · rw [heap_alloc_last w6 _]
                show some (Obj.cells _ _ _) = some (Obj.cells (enc3 [y]).toArray _ _)
                simp [enc3, LV.enc, HY.out.1]
            go_wp2_with fail
            (with_reducible refine hins.mono ?_)
            rintro e w8 ⟨v8, rfl, o8, g8⟩
            have HL7 := Lib.hid (HL6.out.below HB7.out)
            rw [List.length_map] at o8
            have HE8 : Hid (∃ ys', ESt M N W0 ps (k + 1) (k + 1) w8 v8 ys' zs) := by
              refine ⟨_, HE7.out.step hlt HOKK.out lenk HLONG.out (p := p) (i := i) (y := y) ?_ ?_ ?_ hi rfl HI.out.1 HI.out.2 ?_ HY.out.1 ?_ ?_ o8 g8⟩
              · rw [← HLL.out]; exact HP.out.1
              · rw [← HLL.out]; exact HP.out.2.1
              · rw [← HLL.out]; exact HP.out.2.2
              · rw [← HLL.out]; exact HL7.out
              · rw [HY.out.2.1]; exact hrn
              · rw [HY.out.2.2]; exact hgn
            clear hins o8 g8 HE7 HL7 HE6 HC6 HL6 HB7 q0 q1 q2
            go_wp2_with fail
            go_roundg (ps.length - (k + 1))
            case measure => omega
            case rel =>
              obtain ⟨ys', h⟩ := HE8.out
              exact ⟨k + 1, _, ys', zs, by omega, Nat.le_refl _, rfl, rfl, by first | rfl | go_num | (congr 1; omega), h⟩
    · obtain rfl : k = ps.length := by omega
      have hltz : ¬ (ps.length : Int) < (ps.length : Int) := by omega
      go_wp2_with fail
      go_ret2
      exact ⟨_, ys, zs, rfl, HE.out⟩
end Go.Proofs.Ytiglmoggpjgmbaa
