/-
  Package peel's Peel, walked.
  The law of package peel's Peel, walked.
-/
import Derived.Test.YtacncbojplmcjaaMg17
import Derived.Laws.ResultCell
section
namespace Go.Proofs.Ytacncbojplmcjaa
open Go.ChangeShapes Go.WideShapes Go.ChangeAt Go.RowKit Go.Joins
set_option linter.unusedVariables false

theorem eqOk_pl {n : Nat} {l : Cz} (h : EqOk (n : Int) l) : (pl l).Nodup ∧ (∀ x ∈ pl l, x < n) ∧ l.length ≤ n := by
  have h1 : (pl l).Nodup := by
    refine List.pairwise_iff_getElem.2 fun i j hi hj hij => ?_
    have hi2 : i < l.length := by simpa [pl] using hi
    have hj2 : j < l.length := by simpa [pl] using hj
    have h2 := List.pairwise_iff_getElem.1 h.2 i j (by simpa using hi2) (by simpa using hj2) hij
    have a1 := (h.1 _ (List.getElem_mem hi2)).1
    have a2 := (h.1 _ (List.getElem_mem hj2)).1
    simp only [pl, List.getElem_map] at h2 ⊢
    omega
  have h3 : ∀ x ∈ pl l, x < n := fun x hx => by
    obtain ⟨c, hc, rfl⟩ := List.mem_map.1 hx
    have := h.1 c hc
    omega
  refine ⟨h1, h3, ?_⟩
  have := nodup_lt n h1 h3
  simpa [pl] using this

/-- What Peel gives back. -/
def PeelPost (es : Eqz) (n : Nat) (w : World) (e : Ending) (w' : World) : Prop :=
  ∃ pv hv lv P H L, e = .returned (.tuple #[.agg #[pv, hv, lv], .int .i64 0]) ∧ OwnV w.heap.size w' pv P ∧ OwnN w.heap.size w' hv H ∧ OwnN w.heap.size w' lv L ∧
    Peeled es n P H L ∧ Below w.heap.size w w'

set_option maxRecDepth 1000000 in
set_option maxHeartbeats 16000000 in
theorem peel_good (a : Option Addr) (cap : Nat) (es : Eqz) (n : Nat) (hR : RightP es (n : Int)) (w : World) (hs : Er w a cap es) :
    Calls Try.prog 18 #[.slice a es.length cap, .int .i64 (n : Int)] w (PeelPost es n w) := by
  have HS := Lib.hid hs
  have hlm := hs.lt
  have hn : n ≤ 256 := by have := hR.2.1; omega
  have hm := hR.2.2.1
  have hok : ∀ l ∈ es, EqOk (n : Int) l := hR.2.2.2
  have HR := Lib.hid (right_any a cap es n (by omega))
  rw [show decide (RightP es (n : Int)) = true from decide_eq_true hR] at HR
  clear hs hR
  go_enter Try.func18, Try.ntmps18
  go_wp2_with fail
  have HB0 : Hid (Below w.heap.size w (w.alloc (.cells #[.slice none 0 0, .slice none 0 0, .slice none 0 0] 59))) := (Below.refl _ _).alloc (Nat.le_refl _) _
  refine (HR.out _ (HS.out.below HB0.out)).mono ?_
  rintro e w1 ⟨rfl, b1⟩
  have HB1 := Lib.hid (HB0.out.trans (b1.mono HB0.out.size))
  have HRES : Hid (w1.heap[w.heap.size]? = some (.cells #[.slice none 0 0, .slice none 0 0, .slice none 0 0] 59 (0, 0))) := (b1.block _ (by simp)).trans (heap_alloc_last w _)
  have hsz1 : w.heap.size < w1.heap.size := by have := b1.size; simp at this; omega
  clear b1 HR
  go_wp2_with fail
  have hr : ∀ l ∈ es, ∀ c ∈ l, 0 ≤ c.1 ∧ c.1 < (n : Int) := fun l hl c hc => ⟨((hok l hl).1 c hc).1, ((hok l hl).1 c hc).2.1⟩
  have hlen : ∀ l ∈ es, l.length ≤ 256 := fun l hl => by have := (eqOk_pl (hok l hl)).2.2; omega
  have HE := Lib.hid (fun w hs => equationsOf_any a cap es n (by omega) w hs hm hr (fun l hl => by have := hlen l hl; omega))
  have HB2 : Hid (Below w.heap.size w (w1.alloc (.cells #[.slice none 0 0, .slice none 0 0, .slice none 0 0] 59))) := HB1.out.alloc HB1.out.size _
  have HOB : Hid ((w1.alloc (.cells #[.slice none 0 0, .slice none 0 0, .slice none 0 0] 59)).heap[w1.heap.size]? = some (.cells #[.slice none 0 0, .slice none 0 0, .slice none 0 0] 59 (0, 0))) := heap_alloc_last w1 _
  have HRES2 : Hid ((w1.alloc (.cells #[.slice none 0 0, .slice none 0 0, .slice none 0 0] 59)).heap[w.heap.size]? = some (.cells #[.slice none 0 0, .slice none 0 0, .slice none 0 0] 59 (0, 0))) := (Below.heap_alloc _ _ _ hsz1).trans HRES.out
  have hsz2 : w1.heap.size < (w1.alloc (.cells #[.slice none 0 0, .slice none 0 0, .slice none 0 0] 59)).heap.size := by simp
  generalize w1.alloc (.cells #[.slice none 0 0, .slice none 0 0, .slice none 0 0] 59) = w2 at *
  refine (HE.out w2 (HS.out.below HB2.out)).mono ?_
  rintro e w3 ⟨g, rfl, hit⟩
  obtain ⟨L, hinr, hcts⟩ := hit.inR
  have b3 := hit.low
  have HI := Lib.hid hinr
  have HC := Lib.hid hcts
  have HB3 := Lib.hid b3
  have hsz3 := b3.size
  have hmk : (w3.alloc (.cells #[.bool true] 4)).cell? ⟨w3.heap.size, 0, none⟩ = some (.bool true) := by simp
  have HRP := Lib.hid (repeat_any w3.heap.size n (by omega) _ hmk)
  have hsz4 : w3.heap.size < (w3.alloc (.cells #[.bool true] 4)).heap.size := by simp
  have HB4 : Hid (Below w3.heap.size w3 (w3.alloc (.cells #[.bool true] 4))) := (Below.refl _ _).alloc (Nat.le_refl _) _
  clear hit hinr hcts b3 HE hmk
  go_wp2_with fail
  generalize w3.alloc (.cells #[.bool true] 4) = w4 at *
  refine HRP.out.mono ?_
  rintro e w5 ⟨rfl, hrow, b5⟩
  have HROW := Lib.hid hrow
  have HB5 := Lib.hid b5
  have hlt5 := hrow.lt
  have hsz5 := b5.size
  have HBB : Hid (Below w.heap.size w w5) := HB2.out.trans ((HB3.out.trans ((HB4.out.trans (HB5.out.mono HB4.out.size)).mono HB3.out.size)).mono HB2.out.size)
  have HNQ := Lib.hid (newQueue_at a cap es hm (fun l hl => by have := hlen l hl; omega) w5 (HS.out.below HBB.out))
  clear hrow b5 HRP
  go_wp2_with fail
  refine HNQ.out.mono ?_
  rintro e w6 ⟨q, rfl, hqi, hX, b6, hXl⟩
  have hsz6 := b6.size
  have HEV : Hid (PeEnv w w6 w.heap.size w1.heap.size g w4.heap.size n q es L w2.heap.size w3.heap.size) := by
    refine ⟨⟨by omega, by omega, hXl, by omega, ?_, ?_⟩, HBB.out.trans (b6.mono HBB.out.size), ?_, HC.out, Nat.le_refl _, hsz1, by omega, by omega, ?_, by omega, ?_⟩
    · intro hb; have := hX _ hb; omega
    · intro hb; have := hX _ hb; omega
    · refine HI.out.keep fun b h1 h2 => ?_
      rw [b6.block b (by omega), HB5.out.block b (by omega), HB4.out.block b h2]
    · intro b hb; have := hX b hb; omega
    · rw [b6.block _ (by omega), HB5.out.block _ (by omega), HB4.out.block _ (by omega), HB3.out.block _ (by omega)]
      exact HRES2.out
  have HST : Hid (PeSt w6 w1.heap.size w4.heap.size n q es.length w6 (fun _ => true) (opO es fun _ => true) [] (.slice none 0 0) [] (.slice none 0 0) [] (.slice none 0 0)) := by
    refine ⟨Fr.refl _ _, ?_, OwnV.nil _ _, OwnN.nil _ _, OwnN.nil _ _, fun b hb => by simp [Value.ownBlock] at hb, HROW.out.below b6 hlt5, hqi⟩
    rw [b6.block _ (by omega), HB5.out.block _ (by omega), HB4.out.block _ (by omega), HB3.out.block _ (by omega)]
    exact HOB.out
  have HSB := Lib.hid (HS.out.below (HBB.out.trans (b6.mono HBB.out.size)))
  generalize w1.heap.size = Ob at *
  generalize w4.heap.size = bo at *
  generalize w2.heap.size = Bi at *
  generalize w3.heap.size = Ci at *
  clear hqi hX hXl b6 HNQ HI HC HROW HB5 HB4 HB3 HB2 HB1 HB0 HOB HRES HRES2 HBB hsz1 hsz2 hsz3 hsz4 hsz5 hsz6 hlt5
  go_wp2_with fail
  have HP0 : Hid (Parts n (fun _ => true) [] []) := Parts.start n
  have HU0 : Hid (Used es (fun _ => true) [] []) := Used.start es _
  go_loopg [] n (fun gg wr => ∃ opn P pv H hv, Hid (PeSt w6 Ob bo n q es.length wr opn (opO es opn) P pv H hv [] (.slice none 0 0)) ∧ Hid (Parts n opn P H) ∧ Hid (Used es opn P H) ∧ (List.range n).countP opn ≤ gg)
  case atStart => exact ⟨_, _, _, _, _, HST, HP0, HU0, by refine Nat.le_trans List.countP_le_length ?_; simp⟩
  case round =>
    obtain ⟨opn, P, pv, H, hv, HT, HP, HU, hgg⟩ := hrel
    clear HST HP0 HU0
    obtain ⟨l, at_, Q1, hmem⟩ := HT.out.que
    have HL := Lib.hid (len_any q es.length l at_ _ wr Q1)
    have hshort := Q1.short
    by_cases hl0 : l = []
    · subst hl0
      have HDN : Hid (∀ e, e < es.length → opO es opn e = 0) := fun e he => by
        have := (hmem e).2
        simp at this
        have := this he
        omega
      clear Q1 hmem
      go_wp2_with fail
      (with_reducible refine HL.out.mono ?_)
      rintro e w' ⟨rfl, rfl⟩
      clear HL
      obtain ⟨W1, rfl⟩ : ∃ x, x = wr := ⟨_, rfl⟩
      have HTL0 : Hid (PeSt w6 Ob bo n q es.length W1 opn (opO es opn) P pv H hv (leftTo opn 0) (.slice none 0 0)) := HT
      clear HT
      go_wp2_with fail
      go_loopw [85] (fun i wr => ∃ (k : Nat) (lv : Value), k ≤ n ∧ i = .int .i64 k ∧ Hid (PeSt w6 Ob bo n q es.length wr opn (opO es opn) P pv H hv (leftTo opn k) lv)) (fun i _ => n - (intOf i).toNat)
      case atStart => exact ⟨0, _, by omega, rfl, HTL0⟩
      case round =>
        obtain ⟨k, lv, hk, rfl, HT⟩ := hrel
        clear HTL0
        by_cases hlt : k < n
        · have c0 := HT.out.opn.cell k hlt
          unfold bV at c0
          have HX := Lib.hid (leftTo_next opn k)
          have hkz : (k : Int) < (n : Int) := by omega
          have hll := leftTo_len opn k
          cases hop : opn k with
          | false =>
            rw [hop] at c0
            have HX2 : Hid (leftTo opn (k + 1) = leftTo opn k) := by
              have h := HX.out
              rw [hop] at h
              show _ = _
              simpa using h
            clear HX
            go_wp2_with fail
            go_roundw
            case rel => exact ⟨k + 1, lv, by omega, by go_num, by rw [HX2.out]; exact HT⟩
            case measure => simp [intOf]; omega
          | true =>
            rw [hop] at c0
            have HX2 : Hid (leftTo opn (k + 1) = leftTo opn k ++ [k]) := by
              have h := HX.out
              rw [hop] at h
              show _ = _
              simpa using h
            have c2 := HT.out.cells.2.2
            have hobl : Ob < wr.heap.size := Nat.lt_of_lt_of_le HEV.out.fix.hob HT.out.size
            have HTe := Lib.hid (HT.out.later HEV.out.fix ((Below.refl _ wr).alloc (Nat.le_refl _) (.cells #[.int .i64 (k : Int)] 3)))
            have hlv2 : lv.ownBlock ≠ some Ob := fun e => by have := (HT.out.own_low (.inr (.inr e))).1; have := HEV.out.fix.hob; omega
            clear HX hop
            go_wp2_with (at_builtin; refine wpList_push_n _ rfl _ _ rfl w6.heap.size lv (leftTo opn k) rfl HTe.out.lef wr.heap.size rfl k (by simp) HTe.out.size (by omega) ?_; intro v' w9 o9 g9 e9; have HTL := Lib.hid (HTe.out.left HEV.out.fix o9.out g9.out e9.out); obtain ⟨C9, Z9⟩ := HTe.out.left_push HEV.out.fix g9.out; obtain ⟨ac, cd, rfl⟩ := own_slice o9.out; clear o9 g9 e9)
            have HTM : Hid (PeSt w6 Ob bo n q es.length (w9.setCell ⟨Ob, 2, none⟩ (.slice ac ((leftTo opn k).length + 1) cd)) opn (opO es opn) P pv H hv (leftTo opn (k + 1)) (.slice ac ((leftTo opn k).length + 1) cd)) := by
              have h := HTL.out
              rw [List.length_append] at h
              rw [HX2.out]
              exact h
            go_roundw
            case rel => exact ⟨k + 1, _, by omega, by go_num, HTM⟩
            case measure => simp [intOf]; omega
        · obtain rfl : k = n := by omega
          obtain ⟨pa, pc, rfl⟩ := own_slice HT.out.piv
          obtain ⟨ha, hc, rfl⟩ := own_slice HT.out.hel
          obtain ⟨la, lc, rfl⟩ := own_slice HT.out.lef
          obtain ⟨o0, o1, o2⟩ := HT.out.cells
          have HRS := Lib.hid (HEV.out.out HT.out.fr)
          have p0 : wr.cell? ⟨w.heap.size, 0, none⟩ = some (.slice none 0 0) := by rw [cell_of_block HRS.out]; rfl
          have p1 : wr.cell? ⟨w.heap.size, 1, none⟩ = some (.slice none 0 0) := by rw [cell_of_block HRS.out]; rfl
          have p2 : wr.cell? ⟨w.heap.size, 2, none⟩ = some (.slice none 0 0) := by rw [cell_of_block HRS.out]; rfl
          have r0 := unfrozen_of_block HRS.out 0
          have r1 := unfrozen_of_block HRS.out 1
          have r2 := unfrozen_of_block HRS.out 2
          have hRO : w.heap.size < Ob := HEV.out.r1
          have HB := Lib.hid (HEV.out.below HT.out.fr)
          have HPA := Lib.hid (peeled_of HP.out HU.out HDN.out)
          clear HP HU HDN
          go_wp2_with fail
          obtain ⟨W2, hW2⟩ : ∃ W2, W2 = (((wr.setCell ⟨w.heap.size, 0, none⟩ (.slice pa P.length pc)).setCell ⟨w.heap.size, 1, none⟩ (.slice ha H.length hc)).setCell ⟨w.heap.size, 2, none⟩ (.slice la (leftTo opn k).length lc)) := ⟨_, rfl⟩
          have q0 : W2.cell? ⟨w.heap.size, 0, none⟩ = some (.slice pa P.length pc) := by rw [hW2, cell_off (by omega), cell_off (by omega)]; exact cell_now p0
          have q1 : W2.cell? ⟨w.heap.size, 1, none⟩ = some (.slice ha H.length hc) := by rw [hW2, cell_off (by omega)]; exact cell_now ((cell_off (by omega)).trans p1)
          have q2 : W2.cell? ⟨w.heap.size, 2, none⟩ = some (.slice la (leftTo opn k).length lc) := by rw [hW2]; exact cell_now ((cell_off (by omega)).trans ((cell_off (by omega)).trans p2))
          have HBW : Hid (Below w.heap.size w W2) := by rw [hW2]; exact ((HB.out.setCell (p := ⟨w.heap.size, 0, none⟩) (Nat.le_refl _) _).setCell (p := ⟨w.heap.size, 1, none⟩) (Nat.le_refl _) _).setCell (p := ⟨w.heap.size, 2, none⟩) (Nat.le_refl _) _
          have hRW : w.heap.size < w6.heap.size := by have := HEV.out.fix.hob; omega
          have keep : ∀ {e s n : Nat} {v : Value} {xs : List Value}, wr.ownsRow w6.heap.size e s v n xs → W2.ownsRow w.heap.size e s v n xs := fun {e s n v xs} ho => by
            refine own_lower (own_kept ho fun b hb => ?_) (Nat.le_of_lt hRW)
            have := (own_at ho hb).1
            have hne : b ≠ w.heap.size := by omega
            rw [hW2, Below.heap_setCell _ _ _ _ hne, Below.heap_setCell _ _ _ _ hne, Below.heap_setCell _ _ _ _ hne]
          have HK1 := Lib.hid (keep HT.out.piv)
          have HK2 := Lib.hid (keep HT.out.hel)
          have HK3 := Lib.hid (keep HT.out.lef)
          rw [← hW2]
          clear hW2 keep p0 p1 p2 o0 o1 o2 r0 r1 r2
          refine bodyPost_ret (v := .tuple #[.agg #[.slice pa P.length pc, .slice ha H.length hc, .slice la (leftTo opn k).length lc], .int .i64 0]) ?_ rfl ?_
          · rw [results_cell_tmp rfl]
            go_simp
          · exact ⟨_, _, _, P, H, _, rfl, HK1.out, HK2.out, HK3.out, HPA.out, HBW.out⟩
    · have hlp : 0 < l.length := List.length_pos_iff.2 hl0
      obtain ⟨c0, _, _⟩ := Q1.cells
      obtain ⟨e1, x0⟩ := Q1.some hlp
      have he0 := Q1.low _ (List.getElem_mem hlp)
      have hpos := ((hmem _).1 (List.getElem_mem hlp)).2
      have hcl := Q1.len
      have hcm := Q1.most
      rw [e1] at c0
      obtain ⟨e, he⟩ : ∃ e, e = l[0] := ⟨_, rfl⟩
      rw [← he] at x0 he0 hpos
      have d0 : decide ((0 : Int) < (l.length : Int)) = true := by rw [decide_eq_true_iff]; omega
      have d1 : (0 : Int) < (l.length : Int) := by omega
      clear Q1 hmem he e1
      have HEw := Lib.hid (HEV.out.below HT.out.fr)
      obtain ⟨b, off, rfl, hb, a', c', hc, hcr⟩ := er_one HS.out he0
      have hc2 := (HEw.out.cell (p := ⟨b, off + e, none⟩) hb).trans hc
      have hez : (e : Int) < (es.length : Int) := by omega
      have hgE : es.getD e [] = es[e] := by simp [List.getD, he0]
      have HO1 : Hid ((pl es[e]).Nodup) := (eqOk_pl (hok _ (List.getElem_mem he0))).1
      have HO2 : Hid (∀ y ∈ pl es[e], y < n) := (eqOk_pl (hok _ (List.getElem_mem he0))).2.1
      have HNE : Hid (openTo opn es[e] es[e].length ≠ []) := by
        unfold opO at hpos
        rw [hgE] at hpos
        show _ ≠ _
        unfold openTo
        rw [List.take_length]
        intro h
        rw [List.countP_eq_length_filter, h] at hpos
        simp at hpos
      have hll := hlen _ (List.getElem_mem he0)
      have hrr := hr _ (List.getElem_mem he0)
      have HOP := Lib.hid (fun (w1 : World) (h1 : Cr w1 a' c' es[e]) (h2 : Row w1 bo 4 n n (bV opn)) => openPlaces_any a' c' es[e] bo n opn (by omega) w1 h1 h2 hrr (by omega) HNE.out)
      have HOPE : Hid (openTo opn es[e] es[e].length = (pl es[e]).filter opn) := by show _ = _; unfold openTo; rw [List.take_length]
      have HCR := Lib.hid (hcr.below HEw.out)
      have HGE := Lib.hid hgE
      clear hgE
      generalize es[e] = x at *
      clear hc hcr hrr
      go_wp2_with fail
      (with_reducible refine HL.out.mono ?_)
      rintro e w' ⟨rfl, rfl⟩
      clear HL
      go_wp2_with fail
      (with_reducible refine (HOP.out _ HCR.out HT.out.opn).mono ?_)
      rintro r w2 ⟨pg, cp, C, rfl, hperm, hrow, hcl1, hcm1, hpg, b2⟩
      -- what the open unknowns of the equation are
      rw [HOPE.out] at hperm
      have HT2 := Lib.hid (HT.out.later HEV.out.fix b2)
      have hCn : C.Nodup := hperm.nodup_iff.2 (HO1.out.sublist List.filter_sublist)
      have hCl : ∀ y ∈ C, y < n ∧ opn y = true := fun y hy => by
        have := hperm.mem_iff.1 hy
        rw [List.mem_filter] at this
        exact ⟨HO2.out y this.1, this.2⟩
      have hCm : ∀ y, y ∈ C ↔ y ∈ pl (es.getD e []) ∧ opn y = true := fun y => by
        rw [hperm.mem_iff, List.mem_filter, HGE.out]
      have hCe : C ≠ [] := fun h => by
        have := hperm.length_eq
        rw [h, ← HOPE.out] at this
        exact HNE.out (List.eq_nil_of_length_eq_zero this.symm)
      obtain ⟨p, tl, rfl⟩ : ∃ p tl, C = p :: tl := by
        cases C with
        | nil => exact absurd rfl hCe
        | cons p tl => exact ⟨p, tl, rfl⟩
      have HCM := Lib.hid hCm
      have HCN := Lib.hid hCn
      have HCL := Lib.hid hCl
      have HROW := Lib.hid hrow
      have hpgl := hrow.lt
      have hctl : tl.length ≤ 256 := by
        have := nodup_lt n hCn (fun y hy => (hCl y hy).1)
        simp at this; omega
      have hpv : pv.ownBlock ≠ some pg := fun e => by have := (HT.out.own_low (.inl e)).2; omega
      have hhv : hv.ownBlock ≠ some pg := fun e => by have := (HT.out.own_low (.inr (.inl e))).2; omega
      have hpv2 : pv.ownBlock ≠ some Ob := fun e => by have := (HT.out.own_low (.inl e)).1; have := HEV.out.fix.hob; omega
      have hhv2 : hv.ownBlock ≠ some Ob := fun e => by have := (HT.out.own_low (.inr (.inl e))).1; have := HEV.out.fix.hob; omega
      have hps := HP.out.lens
      have hgp : w6.heap.size ≤ pg := Nat.le_trans HT.out.size hpg
      clear hperm hrow hCn hCl hCe hCm b2 HOP HCR HNE HOPE HO1 hpos HT
      obtain ⟨wd, hwd⟩ : ∃ wd, wd = w2.drew := ⟨_, rfl⟩
      have HTd : Hid (PeSt w6 Ob bo n q es.length wd opn (opO es opn) P pv H hv [] (.slice none 0 0)) := by rw [hwd]; exact HT2.out.later HEV.out.fix (Below.refl _ _).drew
      have HRd : Hid (Row wd pg 3 cp (p :: tl).length (lV (p :: tl))) := by rw [hwd]; exact HROW.out
      have hszd : pg < wd.heap.size := by rw [hwd]; exact hpgl
      have hobd : Ob < wd.heap.size := Nat.lt_of_lt_of_le HEV.out.fix.hob HTd.out.size
      have k0 : ∀ u : KeepW wd (fun b => pv.ownBlock = some b), u.v.cell? ⟨Ob, 0, none⟩ = some pv := fun u => (u.cell hobd hpv2).trans HTd.out.cells.1
      have k1 : ∀ u : KeepW wd (fun b => pv.ownBlock = some b), u.v.cell? ⟨pg, 0, none⟩ = some (.int .i64 (p : Int)) := fun u => (u.cell hszd hpv).trans (HRd.out.cell 0 (by simp))
      have hlz : (0 : Int) < (((p :: tl).length : Nat) : Int) := by simp
      go_wp2_with fail
      refine growK_begin 10 (fun w' => ∃ u : KeepW wd (fun b => pv.ownBlock = some b), w' = u.v) (by kernel_rfl) ?_
      rw [← hwd]
      clear hwd HT2 HROW
      refine growK_take (by kernel_rfl) [0, 1, 2, 3, 4, 5] 5 _ _ (by kernel_rfl) _ (keep_class (Fr.refl _ _)) ?_
      simp only [opsAt, List.getElem?_toArray, List.getElem?_cons_succ, List.getElem?_cons_zero]
      repeat (first | go_big_quiet_step (fail) | quiet_step (fail))
      refine wpQuiet_nil ?_
      have HB5 : Hid (Below wd.heap.size wd (wd.alloc (.cells #[.int .i64 (e : Int), .int .i64 (p : Int)] 68))) := (Below.refl _ _).alloc (Nat.le_refl _) _
      have HTe := Lib.hid (HTd.out.later HEV.out.fix HB5.out)
      refine growK_one 6 (by kernel_rfl) (fun K hK => ?_)
      simp only [stepOf, List.getElem?_toArray, List.getElem?_cons_succ, List.getElem?_cons_zero]
      go_simp
      refine hK.out _ _ (keep_class (Fr.refl _ _)) ?_
      clear hK K
      refine growK_one 7 (by kernel_rfl) (fun K hK => ?_)
      simp only [stepOf, List.getElem?_toArray, List.getElem?_cons_succ, List.getElem?_cons_zero]
      go_simp
      refine hK.out _ _ (keep_class (Fr.of_below HB5.out)) ?_
      clear hK K
      refine growK_one 8 (by kernel_rfl) (fun K hK => ?_)
      simp only [stepOf, List.getElem?_toArray, List.getElem?_cons_succ, List.getElem?_cons_zero]
      rw [if_pos (by rfl)]
      refine wp_push_v _ (.tmp 46) (.tmp 52) rfl w6.heap.size pv P rfl HTe.out.piv wd.heap.size rfl e p (by simp) (by simp) HTe.out.size (by omega) ?_
      intro pv' w5 o5 g5 e5
      have F5 : Hid (Fr (fun b => pv.ownBlock = some b) wd w5) := (Fr.of_below HB5.out).trans (Fr.of_grown g5.out fun b e => e)
      have HT5 := Lib.hid (HTe.out.pivot HEV.out.fix o5.out g5.out e5.out)
      obtain ⟨aa, cc, rfl⟩ := own_slice o5.out
      have K2 := k0 ⟨w5, F5.out⟩
      have z2 : w5.frozen? ⟨Ob, 0, none⟩ = false := KeepW.loose ⟨w5, F5.out⟩ hobd hpv2 HTd.out.ord
      simp only at K2
      refine hK.out _ _ (keep_class F5.out) ?_
      clear hK K
      refine growK_take (by kernel_rfl) [9] 1 _ _ (by kernel_rfl) _ (keep_class F5.out) ?_
      simp only [opsAt, List.getElem?_toArray, List.getElem?_cons_succ, List.getElem?_cons_zero]
      repeat (first | go_big_quiet_step (fail) | quiet_step (fail))
      refine wpQuiet_nil ?_
      refine growK_last (by kernel_rfl) (by kernel_rfl) (fun K hK => ?_)
      simp only [stepOf, List.getElem?_toArray, List.getElem?_cons_succ, List.getElem?_cons_zero]
      go_simp
      refine hK.out _ _ ?_
      have HR7 : Hid (Row (w5.setCell ⟨Ob, 0, none⟩ (.slice aa (P ++ [(e, p)]).length cc)) pg 3 cp (p :: tl).length (lV (p :: tl))) := by
        have hne : pg ≠ Ob := by have := HEV.out.fix.hob; omega
        obtain ⟨cs, r1, r2, r3⟩ := HRd.out
        exact Row.other (C := Ob) (show Row w5 pg 3 cp (p :: tl).length (lV (p :: tl)) from ⟨cs, (F5.out.block pg hszd hpv).trans r1, r2, r3⟩) hne
      have HT7 : Hid (PeSt w6 Ob bo n q es.length (w5.setCell ⟨Ob, 0, none⟩ (.slice aa (P.length + 1) cc)) opn (opO es opn) (P ++ [(e, p)]) (.slice aa (P.length + 1) cc) H hv [] (.slice none 0 0)) := by
        have := HT5.out
        rw [List.length_append] at this
        exact this
      have HR8 : Hid (Row (w5.setCell ⟨Ob, 0, none⟩ (.slice aa (P.length + 1) cc)) pg 3 cp (p :: tl).length (lV (p :: tl))) := by
        have := HR7.out
        rw [List.length_append] at this
        exact this
      have hsz7 : pg < (w5.setCell ⟨Ob, 0, none⟩ (.slice aa (P.length + 1) cc)).heap.size := HR8.out.lt
      clear hK K k0 k1 K2 z2 HT5 HR7 HTe HTd HRd HB5 o5 g5 e5 F5
      obtain ⟨w8, hw8⟩ : ∃ x, x = w5.setCell ⟨Ob, 0, none⟩ (.slice aa (P.length + 1) cc) := ⟨_, rfl⟩
      rw [← hw8] at HT7 HR8 hsz7
      -- the held ones
      obtain ⟨ad, hAD, hAD2⟩ : ∃ ad : Addr, (if cp = 1 then (some ⟨pg, 0, none⟩ : Option Addr) else some ⟨pg, 1, none⟩) = some ad ∧ (tl ≠ [] → ad = ⟨pg, 1, none⟩) := by
        by_cases h1 : cp = 1
        · refine ⟨⟨pg, 0, none⟩, by rw [if_pos h1], fun h => ?_⟩
          have := List.length_pos_iff.2 h
          simp at hcl1
          omega
        · exact ⟨⟨pg, 1, none⟩, by rw [if_neg h1], fun _ => rfl⟩
      have HAD := Lib.hid hAD2
      clear hAD2
      obtain ⟨wq, hwq⟩ : ∃ x, x = w8.drew := ⟨_, rfl⟩
      have HTq : Hid (PeSt w6 Ob bo n q es.length wq opn (opO es opn) (P ++ [(e, p)]) (.slice aa (P.length + 1) cc) H hv [] (.slice none 0 0)) := by rw [hwq]; exact HT7.out.later HEV.out.fix (Below.refl _ _).drew
      have HRq : Hid (Row wq pg 3 cp (p :: tl).length (lV (p :: tl))) := by rw [hwq]; exact HR8.out
      have hszq : pg < wq.heap.size := by rw [hwq]; exact hsz7
      have hobq : Ob < wq.heap.size := Nat.lt_of_lt_of_le HEV.out.fix.hob HTq.out.size
      have q0 : ∀ u : KeepW wq (fun b => hv.ownBlock = some b), u.v.cell? ⟨Ob, 1, none⟩ = some hv := fun u => (u.cell hobq hhv2).trans HTq.out.cells.2.1
      have HCE : Hid (∀ j u, (encN tl)[j]? = some u → wq.cell? (ad.add j) = some u) := fun j u hj => by
        obtain ⟨hjl, hje⟩ := List.getElem?_eq_some_iff.1 hj
        have hjt : j < tl.length := by simpa [encN] using hjl
        have htl : tl ≠ [] := fun h => by rw [h] at hjt; simp at hjt
        have had : ad.add j = ⟨pg, 1 + j, none⟩ := by
          rw [HAD.out htl]
          by_cases j0 : j = 0
          · subst j0; simp [Addr.add]
          · simp [Addr.add, j0]
        rw [had, HRq.out.cell (1 + j) (by simp; omega), ← hje, lV_get (by simp; omega)]
        simp [encN, Nat.add_comm 1 j]
      have j1 : (1 : Int) ≤ (tl.length : Int) + 1 := by omega
      have j2 : (tl.length : Int) + 1 ≤ (cp : Int) := by simp at hcl1; omega
      go_wp2_with fail
      refine growK_begin 6 (fun w' => ∃ u : KeepW wq (fun b => hv.ownBlock = some b), w' = u.v) (by kernel_rfl) ?_
      rw [← hw8, ← hwq]
      clear hw8 hwq HT7 HR8
      refine growK_take (by kernel_rfl) [0, 1, 2, 3] 3 _ _ (by kernel_rfl) _ (keep_class (Fr.refl _ _)) ?_
      simp only [opsAt, List.getElem?_toArray, List.getElem?_cons_succ, List.getElem?_cons_zero]
      repeat (first | go_big_quiet_step (fail) | quiet_step (fail))
      refine wpQuiet_nil ?_
      refine growK_one 4 (by kernel_rfl) (fun K hK => ?_)
      simp only [stepOf, List.getElem?_toArray, List.getElem?_cons_succ, List.getElem?_cons_zero]
      rw [if_pos (by rfl)]
      refine wp_push_ns _ (.tmp 56) (.tmp 58) rfl w6.heap.size hv H rfl HTq.out.hel ad (cp - 1) tl rfl HCE.out HTq.out.size (by omega) ?_
      intro hv' w9 o9 g9 e9
      have F9 : Hid (Fr (fun b => hv.ownBlock = some b) wq w9) := Fr.of_grown g9.out fun b e => e
      have HT9 := Lib.hid (HTq.out.held HEV.out.fix o9.out g9.out e9.out)
      obtain ⟨ab, cb, rfl⟩ := own_slice o9.out
      have K2 := q0 ⟨w9, F9.out⟩
      have z2 : w9.frozen? ⟨Ob, 1, none⟩ = false := KeepW.loose ⟨w9, F9.out⟩ hobq hhv2 HTq.out.ord
      simp only at K2
      refine hK.out _ _ (keep_class F9.out) ?_
      clear hK K
      refine growK_take (by kernel_rfl) [5] 1 _ _ (by kernel_rfl) _ (keep_class F9.out) ?_
      simp only [opsAt, List.getElem?_toArray, List.getElem?_cons_succ, List.getElem?_cons_zero]
      repeat (first | go_big_quiet_step (fail) | quiet_step (fail))
      refine wpQuiet_nil ?_
      refine growK_last (by kernel_rfl) (by kernel_rfl) (fun K hK => ?_)
      simp only [stepOf, List.getElem?_toArray, List.getElem?_cons_succ, List.getElem?_cons_zero]
      go_simp
      refine hK.out _ _ ?_
      have HTA : Hid (PeSt w6 Ob bo n q es.length (w9.setCell ⟨Ob, 1, none⟩ (.slice ab (H.length + tl.length) cb)) opn (opO es opn) (P ++ [(e, p)]) (.slice aa (P.length + 1) cc) (H ++ tl) (.slice ab (H.length + tl.length) cb) [] (.slice none 0 0)) := by
        have := HT9.out
        rw [List.length_append] at this
        exact this
      have HRA : Hid (Row (w9.setCell ⟨Ob, 1, none⟩ (.slice ab (H.length + tl.length) cb)) pg 3 cp (p :: tl).length (lV (p :: tl))) := by
        have hne : pg ≠ Ob := by have := HEV.out.fix.hob; omega
        obtain ⟨cs, r1, r2, r3⟩ := HRq.out
        exact Row.other (C := Ob) (show Row w9 pg 3 cp (p :: tl).length (lV (p :: tl)) from ⟨cs, (F9.out.block pg hszq hhv).trans r1, r2, r3⟩) hne
      clear hK K q0 K2 z2 HT9 HTq HRq o9 g9 e9 F9 HCE hAD HAD hszq hobq hszd hobd hsz7 hhv hhv2 hpv hpv2 j1 j2
      obtain ⟨wA, hwA⟩ : ∃ x, x = w9.setCell ⟨Ob, 1, none⟩ (.slice ab (H.length + tl.length) cb) := ⟨_, rfl⟩
      rw [← hwA] at HTA HRA
      go_wp2_with fail
      rw [← hwA]
      clear hwA
      obtain ⟨C, hC⟩ : ∃ C, C = p :: tl := ⟨_, rfl⟩
      have hCL : C.length = tl.length + 1 := by rw [hC]; rfl
      rw [← hC] at HRA HCN HCL HCM
      have HCE := Lib.hid hC
      have HTM0 : Hid (PeSt w6 Ob bo n q es.length wA (shutT opn C 0) (opO es (shutT opn C 0)) (P ++ [(e, p)]) (.slice aa (P.length + 1) cc) (H ++ tl) (.slice ab (H.length + tl.length) cb) [] (.slice none 0 0)) := by
        rw [shutT_start]; exact HTA.out
      clear hC HTA
      go_loopw [63] (fun i wr => ∃ t : Nat, t ≤ tl.length + 1 ∧ i = .int .i64 t ∧ Hid (PeSt w6 Ob bo n q es.length wr (shutT opn C t) (opO es (shutT opn C t)) (P ++ [(e, p)]) (.slice aa (P.length + 1) cc) (H ++ tl) (.slice ab (H.length + tl.length) cb) [] (.slice none 0 0)) ∧ Hid (Row wr pg 3 cp C.length (lV C))) (fun i _ => tl.length + 1 - (intOf i).toNat)
      case atStart => exact ⟨0, by omega, rfl, HTM0, HRA⟩
      case round =>
        obtain ⟨t, ht, rfl, HT, HRw⟩ := hrel
        clear HTM0 HRA
        by_cases hlt : t < tl.length + 1
        · have htC : t < C.length := by omega
          have x1 : wr.cell? ⟨pg, t, none⟩ = some (.int .i64 ((C[t] : Nat) : Int)) := by rw [HRw.out.cell t htC, lV_get htC]
          obtain ⟨hxn, hxo⟩ := HCL.out _ (List.getElem_mem htC)
          have HOS : Hid (opO es (shutT opn C t) = opI es (shutT opn C (t + 1)) (L C[t]) 0) := opI_start htC HCN.out hxo (fun e => HEV.out.cts C[t] e hxn)
          have HSN : Hid (∀ y, shutT opn C (t + 1) y = if y = C[t] then false else shutT opn C t y) := shutT_next opn htC
          have HCT : Hid (∀ e ∈ L C[t], e < es.length) := fun e he => by
            have h1 : 0 < (L C[t]).count e := List.count_pos_iff.2 he
            rw [HEV.out.cts C[t] e hxn] at h1
            unfold cnt at h1
            split at h1
            · assumption
            · split at h1
              · simp [pl] at h1
              · omega
          generalize C[t] = y at *
          have y1 := HT.out.opn.cell y hxn
          have z1 := HT.out.opn.loose y
          unfold bV at y1
          have hxz : (y : Int) < (n : Int) := by omega
          have HTS : Hid (PeSt w6 Ob bo n q es.length (wr.setCell ⟨bo, y, none⟩ (.bool false)) (shutT opn C (t + 1)) (opI es (shutT opn C (t + 1)) (L y) 0) (P ++ [(e, p)]) (.slice aa (P.length + 1) cc) (H ++ tl) (.slice ab (H.length + tl.length) cb) [] (.slice none 0 0)) := by
            have := HT.out.shut HEV.out.fix hxn HSN.out
            rw [HOS.out] at this
            exact this
          have hpb : pg ≠ bo := by have := HEV.out.fix.hbo; omega
          have HRS : Hid (Row (wr.setCell ⟨bo, y, none⟩ (.bool false)) pg 3 cp C.length (lV C)) := HRw.out.other (C := bo) hpb
          obtain ⟨ai, ci, i0, i2, i3, i4⟩ := HEV.out.row hxn
          have i1 := i0 _ HTS.out.fr
          have hLm : (L y).length ≤ 9223372036854775807 := by unfold maxLen at i3; omega
          have dt : decide ((t : Int) < (tl.length : Int) + 1) = true := by rw [decide_eq_true_iff]; omega
          have dt2 : (t : Int) < (tl.length : Int) + 1 := by omega
          clear i0
          generalize shutT opn C t y = sy at *
          have hbn : bo ≠ g := by have := HEV.out.inr.hi; have := HEV.out.r3; omega
          have HI4 := Lib.hid i4
          clear i4 HOS HSN HT HRw hxo
          obtain ⟨wB, hwB⟩ : ∃ x, x = wr.setCell ⟨bo, y, none⟩ (.bool false) := ⟨_, rfl⟩
          go_wp2_with fail
          rw [← hwB] at HTS HRS i1 ⊢
          clear hwB
          go_loopg [75] (L y).length (fun gg i wr => ∃ r : Nat, r ≤ (L y).length ∧ (L y).length - r ≤ gg ∧ i = .int .i64 r ∧ Hid (PeSt w6 Ob bo n q es.length wr (shutT opn C (t + 1)) (opI es (shutT opn C (t + 1)) (L y) r) (P ++ [(e, p)]) (.slice aa (P.length + 1) cc) (H ++ tl) (.slice ab (H.length + tl.length) cb) [] (.slice none 0 0)) ∧ Hid (Row wr pg 3 cp C.length (lV C)))
          case atStart => exact ⟨0, by omega, by omega, rfl, HTS, HRS⟩
          case round =>
            obtain ⟨r, hr1, hgr, rfl, HT, HRw⟩ := hrel
            clear HTS HRS
            by_cases hlr : r < (L y).length
            · obtain ⟨bb, rfl, hbb⟩ := HI4.out r hlr
              have xr := hbb _ HT.out.fr
              have he1 := HCT.out _ (List.getElem_mem hlr)
              have hp1 : 0 < opI es (shutT opn C (t + 1)) (L y) r (L y)[r] := opI_pos hlr
              have HON : Hid (upd (opI es (shutT opn C (t + 1)) (L y) r) (L y)[r] (opI es (shutT opn C (t + 1)) (L y) r (L y)[r] - 1) = opI es (shutT opn C (t + 1)) (L y) (r + 1)) := opI_next hlr
              have HLS := Lib.hid (lessen_any q es.length _ wr HT.out.que _ he1 hp1)
              rw [HON.out] at HLS
              generalize (L y)[r] = e0 at *
              clear hbb HON hp1
              go_wp2_with fail
              (with_reducible refine HLS.out.mono ?_)
              rintro z wC ⟨rfl, hq2, hf2⟩
              have HTN := Lib.hid (HT.out.queue HEV.out.fix hf2 hq2)
              have HRN : Hid (Row wC pg 3 cp C.length (lV C)) := by
                obtain ⟨cs, r1, r2, r3⟩ := HRw.out
                exact ⟨cs, (hf2.block pg (Array.getElem?_eq_some_iff.1 r1).1 fun e => by have := HEV.out.fix.hq pg e; omega).trans r1, r2, r3⟩
              clear hq2 hf2 HLS HT HRw xr
              go_wp2_with fail
              go_roundg ((L y).length - (r + 1))
              case measure => omega
              case rel => exact ⟨r + 1, by omega, Nat.le_refl _, by go_num, HTN, HRN⟩
            · obtain rfl : r = (L y).length := by omega
              have HTN := HT
              rw [opI_end] at HTN
              clear HT
              go_wp2_with fail
              go_roundw
              case rel => exact ⟨t + 1, by omega, by go_num, HTN, HRw⟩
              case measure => simp [intOf]; omega
        · obtain rfl : t = tl.length + 1 := by omega
          have HTZ : Hid (PeSt w6 Ob bo n q es.length wr (shutT opn C C.length) (opO es (shutT opn C C.length)) (P ++ [(e, p)]) (.slice aa (P.length + 1) cc) (H ++ tl) (.slice ab (H.length + tl.length) cb) [] (.slice none 0 0)) := by rw [hCL]; exact HT.out
          have HPZ : Hid (Parts n (shutT opn C C.length) (P ++ [(e, p)]) (H ++ tl)) := by
            rw [HCE.out]
            refine HP.out.next ?_ ?_
            · rw [← HCE.out]; exact HCN.out
            · rw [← HCE.out]; exact HCL.out
          have HUZ : Hid (Used es (shutT opn C C.length) (P ++ [(e, p)]) (H ++ tl)) := by
            rw [HCE.out]
            refine HU.out.next HP.out he0 ?_ ?_
            · rw [HGE.out]; exact HO2.out
            · rw [← HCE.out]; exact HCM.out
          have hlt2 : (List.range n).countP (shutT opn C C.length) < (List.range n).countP opn := by
            rw [HCE.out]
            refine open_less fun y hy => HCL.out y ?_
            rw [HCE.out]; exact hy
          clear HT HRw HP HU
          go_wp2_with fail
          go_roundg ((List.range n).countP (shutT opn C C.length))
          case measure => omega
          case rel => exact ⟨_, _, _, _, _, HTZ, HPZ, HUZ, Nat.le_refl _⟩
end Go.Proofs.Ytacncbojplmcjaa
end

section
namespace Go.Proofs.Ytacncbojplmcjaa
open Go.ChangeShapes Go.WideShapes Go.ChangeAt Go.RowKit Go.Joins
set_option linter.unusedVariables false

set_option maxRecDepth 1000000 in
set_option maxHeartbeats 4000000 in
theorem peel_bad (a : Option Addr) (cap : Nat) (es : Eqz) (n : Int) (hn : -9223372036854775808 ≤ n ∧ n ≤ 9223372036854775807) (hR : ¬ RightP es n) (w : World) (hs : Er w a cap es) :
    Calls Try.prog 18 #[.slice a es.length cap, .int .i64 n] w fun e w' => e = .returned (.tuple #[.agg #[.slice none 0 0, .slice none 0 0, .slice none 0 0], .int .i64 1]) ∧ Below w.heap.size w w' := by
  have HS := Lib.hid hs
  have hlm := hs.lt
  have HR := Lib.hid (right_any a cap es n hn)
  rw [show decide (RightP es n) = false from decide_eq_false hR] at HR
  clear hs hR
  go_enter Try.func18, Try.ntmps18
  go_wp2_with fail
  have HB0 : Hid (Below w.heap.size w (w.alloc (.cells #[.slice none 0 0, .slice none 0 0, .slice none 0 0] 59))) := (Below.refl _ _).alloc (Nat.le_refl _) _
  refine (HR.out _ (HS.out.below HB0.out)).mono ?_
  rintro e w1 ⟨rfl, b1⟩
  have HB1 := Lib.hid (HB0.out.trans (b1.mono HB0.out.size))
  have HRES : Hid (w1.heap[w.heap.size]? = some (.cells #[.slice none 0 0, .slice none 0 0, .slice none 0 0] 59 (0, 0))) := (b1.block _ (by simp)).trans (heap_alloc_last w _)
  have p0 : w1.cell? ⟨w.heap.size, 0, none⟩ = some (.slice none 0 0) := by rw [cell_of_block HRES.out]; rfl
  have p1 : w1.cell? ⟨w.heap.size, 1, none⟩ = some (.slice none 0 0) := by rw [cell_of_block HRES.out]; rfl
  have p2 : w1.cell? ⟨w.heap.size, 2, none⟩ = some (.slice none 0 0) := by rw [cell_of_block HRES.out]; rfl
  have r0 := unfrozen_of_block HRES.out 0
  have r1 := unfrozen_of_block HRES.out 1
  have r2 := unfrozen_of_block HRES.out 2
  clear b1 HR
  go_wp2_with fail
  obtain ⟨W2, hW2⟩ : ∃ W2, W2 = (((w1.setCell ⟨w.heap.size, 0, none⟩ (.slice none 0 0)).setCell ⟨w.heap.size, 1, none⟩ (.slice none 0 0)).setCell ⟨w.heap.size, 2, none⟩ (.slice none 0 0)) := ⟨_, rfl⟩
  have q0 : W2.cell? ⟨w.heap.size, 0, none⟩ = some (.slice none 0 0) := by rw [hW2, cell_off (by omega), cell_off (by omega)]; exact cell_now p0
  have q1 : W2.cell? ⟨w.heap.size, 1, none⟩ = some (.slice none 0 0) := by rw [hW2, cell_off (by omega)]; exact cell_now ((cell_off (by omega)).trans p1)
  have q2 : W2.cell? ⟨w.heap.size, 2, none⟩ = some (.slice none 0 0) := by rw [hW2]; exact cell_now ((cell_off (by omega)).trans ((cell_off (by omega)).trans p2))
  have HBW : Hid (Below w.heap.size w W2) := by rw [hW2]; exact ((HB1.out.setCell (p := ⟨w.heap.size, 0, none⟩) (Nat.le_refl _) _).setCell (p := ⟨w.heap.size, 1, none⟩) (Nat.le_refl _) _).setCell (p := ⟨w.heap.size, 2, none⟩) (Nat.le_refl _) _
  rw [← hW2]
  clear hW2 p0 p1 p2 r0 r1 r2
  refine bodyPost_ret (v := .tuple #[.agg #[.slice none 0 0, .slice none 0 0, .slice none 0 0], .int .i64 1]) ?_ rfl ?_
  · rw [results_cell_tmp rfl]
    go_simp
  · exact ⟨rfl, HBW.out⟩

theorem ownV_cells {B : Nat} {w : World} {v : Value} {P : List (Nat × Nat)} (h : OwnV B w v P) : ∃ a cap, v = .slice a P.length cap ∧ P.length ≤ cap ∧ cap ≤ maxLen ∧ ∀ i, (hi : i < P.length) → ∃ b, a = some ⟨b, 0, none⟩ ∧ b < w.heap.size ∧ w.cell? ⟨b, i * 2 + 1, none⟩ = some (.int .i64 ((P[i].2 : Nat) : Int)) := by
  rcases h.2 with ⟨rfl, h0⟩ | ⟨g, cap, cur, rfl, hB, hh, h1, h2, h3, h4⟩
  · have : P = [] := List.eq_nil_of_length_eq_zero h0
    subst this
    exact ⟨none, 0, rfl, by simp, by simp, fun i hi => by simp at hi⟩
  · refine ⟨_, cap, rfl, h1, h2, fun i hi => ⟨g, rfl, (Array.getElem?_eq_some_iff.1 hh).1, ?_⟩⟩
    rw [cell_of_block hh]
    have h5 := (encV_get hi).2
    rw [← h4, List.getElem?_take] at h5
    split at h5
    · simpa using h5
    · cases h5
theorem ownN_cells {B : Nat} {w : World} {v : Value} {l : List Nat} (h : OwnN B w v l) : ∃ a cap, v = .slice a l.length cap ∧ l.length ≤ cap ∧ cap ≤ maxLen ∧ ∀ i, (hi : i < l.length) → ∃ b, a = some ⟨b, 0, none⟩ ∧ b < w.heap.size ∧ w.cell? ⟨b, i, none⟩ = some (.int .i64 ((l[i] : Nat) : Int)) := by
  by_cases hl : l = []
  · subst hl
    obtain ⟨a, c, rfl⟩ := own_slice h
    rcases h.2 with ⟨e, _⟩ | ⟨g, cap, cur, e, hB, hh, h1, h2, h3, h4⟩
    · cases e; exact ⟨none, 0, rfl, by simp, by simp, fun i hi => by simp at hi⟩
    · cases e; exact ⟨_, _, rfl, by simp, h2, fun i hi => by simp at hi⟩
  · obtain ⟨g, cap, rfl, h1, h2, h3, h4⟩ := row_of_own hl h
    exact ⟨_, cap, rfl, h2, h3, fun i hi => ⟨g, rfl, h1.lt, by rw [h1.cell i hi, lV_get hi]⟩⟩

/-- How often each is counted, when the first k of l are told. -/
def cntK (base : Nat → Nat) (l : List Nat) (k x : Nat) : Nat := base x + (l.take k).count x
theorem cntK_start (base : Nat → Nat) (l : List Nat) : cntK base l 0 = base := by funext x; simp [cntK]
theorem cntK_next (base : Nat → Nat) {l : List Nat} {k : Nat} (h : k < l.length) (x : Nat) : cntK base l (k + 1) x = if x = l[k] then cntK base l k l[k] + 1 else cntK base l k x := by
  unfold cntK
  rw [List.take_succ_eq_append_getElem h, List.count_append]
  by_cases e : x = l[k]
  · subst e; simp; omega
  · rw [if_neg e]
    have : List.count x [l[k]] = 0 := by rw [List.count_eq_zero]; simpa using e
    omega
theorem cntK_end (base : Nat → Nat) (l : List Nat) (x : Nat) : cntK base l l.length x = base x + l.count x := by simp [cntK]
theorem count_once : ∀ {l : List Nat}, l.Nodup → ∀ x, x ∈ l → l.count x = 1
  | [], _, x, hx => by simp at hx
  | y :: l, hn, x, hx => by
    rw [List.nodup_cons] at hn
    rw [List.count_cons]
    by_cases e : y = x
    · subst e
      rw [List.count_eq_zero.2 hn.1]; simp
    · have hx2 : x ∈ l := by
        rcases List.mem_cons.1 hx with h | h
        · exact absurd h.symm e
        · exact h
      rw [count_once hn.2 x hx2]
      simp [e]
end Go.Proofs.Ytacncbojplmcjaa
end
