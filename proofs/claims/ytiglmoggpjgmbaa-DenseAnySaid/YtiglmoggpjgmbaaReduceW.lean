/-
  Package dense's Reduce, walked.
-/
import Derived.Test.YtiglmoggpjgmbaaDense
namespace Go.Proofs.Ytiglmoggpjgmbaa
open Go.ChangeShapes Go.WideShapes Go.ChangeAt Go.RowKit Go.Joins
set_option linter.unusedVariables false

/-- The steps, cleared, as they lie in memory. -/
structure Cleared (N : Nat) (w : World) (ys : List (LV × St)) (a : Option Addr) (xs : List LV) : Prop where
  ls : LS w a xs
  len : xs.length = ys.length
  line : ∀ j (h1 : j < xs.length) (h2 : j < ys.length), LineAt w xs[j] (clearL N (ys.map (·.2)) j) ∧ xs[j].ld = (ys[j].2.2 : Int)
def ClearedPost (N : Nat) (w0 : World) (ys : List (LV × St)) (a : Option Addr) (e : Ending) (w' : World) : Prop :=
  ∃ xs, e = .returned (.tuple #[]) ∧ Cleared N w' ys a xs ∧ Below w0.heap.size w0 w'
theorem cleared_any {M N : Nat} {rows right : Rws} {w0 w : World} {a : Option Addr} {cap : Nat} {ys : List (LV × St)} {zs : List Ln} (h : EDone M N rows right w0 w (.slice a ys.length cap) ys zs) (hM : M ≤ 1000) (hN : N ≤ 1000) :
    Calls Try.prog 20 #[.slice a ys.length cap, .int .i64 (N : Int)] w (ClearedPost N w0 ys a) := by
  obtain ⟨D, hp, hi⟩ := h.inv
  obtain ⟨B, hB, ho⟩ := h.own
  obtain ⟨a', c', e, h1, h2, h3, h4⟩ := own_form ho
  cases e
  have hfew := hi.few
  rw [List.length_map] at hfew
  refine (clear_walk M N w ys a cap h3 h.steps (fun y hy => hi.okS _ (List.mem_map.2 ⟨y, hy, rfl⟩)) (by omega) h2 h1 hM hN).mono ?_
  rintro e w' (⟨rfl, rfl, rfl⟩ | ⟨B', rfl, cur, xs, rfl, C⟩)
  · exact ⟨[], rfl, ⟨.inl rfl, rfl, fun j hj => by simp at hj⟩, h.low⟩
  · refine ⟨xs, rfl, ⟨.inr ⟨B', cur, rfl, C.sb⟩, C.len, fun j h1 h2 => ⟨C.done j h1 h2, ?_⟩⟩, ?_⟩
    · rw [C.ld j h1 h2]; exact (h.steps _ (List.getElem_mem h2)).2
    · refine h.low.trans (C.fr.below h.low.size fun k hk e => ?_)
      subst e
      rcases ho.2 with ⟨e, _⟩ | ⟨g, cap', cur', e, hb, _⟩
      · cases e
      · have : k = g := by injection e with e; injection e with e; injection e with e
        omega

def redRows (N : Nat) (ys : List (LV × St)) (k : Nat) : Rws := (List.range k).map fun j => (clearL N (ys.map (·.2)) j).row
def redLeads (ys : List (LV × St)) : List Nat := ys.map (·.2.2)
theorem redRows_snoc (N : Nat) (ys : List (LV × St)) (k : Nat) : redRows N ys (k + 1) = redRows N ys k ++ [(clearL N (ys.map (·.2)) k).row] := by simp [redRows, List.range_succ]
def redOf (ls : Rws) : Rws := (List.range (rankN ls)).map fun i => (echTo (pads ls (longN ls)) (longN ls)).1.getD i []
def RedPost (ls : Rws) (w : World) (e : Ending) (w' : World) : Prop :=
  ∃ a1 c1 v2, e = .returned (.tuple #[.slice a1 (redOf ls).length c1, v2]) ∧ Rs w'.heap.size w' a1 c1 (redOf ls) ∧ OwnI w.heap.size w' v2 (echTo (pads ls (longN ls)) (longN ls)).2 ∧ Below w.heap.size w w'

theorem Own.row {B : Nat} {w : World} {v : Value} {ls : Rws} (h : Own B w v ls) : ∃ xs, w.ownsRow B 32 1 v ls.length xs := by
  obtain ⟨xs, ho, _⟩ := h
  exact ⟨xs, ho⟩
theorem Own.grown {B n s : Nat} {w w' : World} {v v2 : Value} {ls : Rws} {x2 : List Value} (h : Own B w v ls) (h2 : w.ownsRow B 3 s v2 n x2) (hg : w.grownBy w' v2.ownBlock) (hk : Keep B w w') : Own B w' v ls := by
  obtain ⟨xs, ho, hx⟩ := h
  refine ⟨xs, World.ownsRow.kept ho hg (ne_kind ho h2 (by decide)), fun i hi => ?_⟩
  obtain ⟨a, c, e1, e2⟩ := hx i hi
  exact ⟨a, c, e1, e2.keep hk⟩
theorem OwnI.grown {B n s : Nat} {w w' : World} {v v2 : Value} {P : List Nat} {x2 : List Value} (h : OwnI B w v P) (h2 : w.ownsRow B 32 s v2 n x2) (hg : w.grownBy w' v2.ownBlock) : OwnI B w' v P :=
  World.ownsRow.kept h hg (ne_kind h h2 (by decide))
theorem wpList_push_rows2 {ops : Array Oper} {rest : List Oper} {o : Oper} {a : Act} {Q : Exit → Act → World → Prop} (w : World) (hgd : o.guard = none) (s x : Operand)
    (ho : o.op = .call { callee := .builtin .append, args := #[s, x], argTypes := #[22, 22] })
    (B : Nat) (v : Value) (ls : Rws) (hs : a.eval s = v) (hown : Own B w v ls) (g : Nat) (hx : a.eval x = .slice (some ⟨g, 0, none⟩) 1 1)
    (aa : Option Addr) (c : Nat) (l : List Nat) (hcell : w.cell? ⟨g, 0, none⟩ = some (.slice aa l.length c)) (hrw : Rw B w aa c l) (hB : B ≤ w.heap.size) (hlen : ls.length ≤ 100000)
    (h : ∀ v' w', Hid (Own B w' v' (ls ++ [l])) → Hid (Keep B w w' ∧ w.grownBy w' v.ownBlock) → wpList Try.prog ops Q rest (a.put o.dst v') w') : wpList Try.prog ops Q (o :: rest) a w := by
  obtain ⟨i0, hi, hz0, hz1, hz2⟩ := info_parts infoR
  obtain ⟨xs, ho1, hxs⟩ := hown
  refine wpList_append_own w hgd s x 22 ho B 32 i0 (.slice none 0 0) 1 24 Try.underlying22 hi hz0 hz1 hz2 rfl (by decide) v ls.length xs hs ho1 ⟨g, 0, none⟩ 1 1 [.slice aa l.length c] hx rfl (one_cell hcell) (by simp [Value.oneCell']) (by unfold maxLen; omega) (by omega) hB ?_
  intro v' w' h1 h2 _
  have hk : Keep B w w' := (Keep.refl B w).grown h2 (Other.of_own ho1 (by decide))
  refine h v' w' ⟨xs ++ [.slice aa l.length c], by simpa using h1, fun i hi' => ?_⟩ ⟨hk, h2⟩
  have hxl : xs.length = ls.length := by simpa using ho1.1
  by_cases e : i < ls.length
  · obtain ⟨a', c', e1, e2⟩ := hxs i e
    refine ⟨a', c', ?_, ?_⟩
    · rw [List.getElem_append_left e, List.getElem?_append_left (by omega)]; exact e1
    · rw [List.getElem_append_left e]; exact e2.keep hk
  · have e2 : i = ls.length := by simp at hi'; omega
    subst e2
    refine ⟨aa, c, ?_, ?_⟩
    · rw [List.getElem_append_right (Nat.le_refl _), List.getElem?_append_right (by omega)]
      simp [hxl]
    · rw [List.getElem_append_right (Nat.le_refl _)]
      simpa using hrw.keep hk
theorem own_base {w : World} {B B' e s n : Nat} {v : Value} {xs : List Value} (h : w.ownsRow B e s v n xs) (hB : B' ≤ B) : w.ownsRow B' e s v n xs := by
  refine ⟨h.1, h.2.imp id ?_⟩
  rintro ⟨g, cap, cur, h1, h2, h3⟩
  exact ⟨g, cap, cur, h1, Nat.le_trans hB h2, h3⟩

set_option maxRecDepth 100000 in
set_option maxHeartbeats 2000000 in
theorem reduce_any (B : Nat) (a : Option Addr) (cap : Nat) (ls : Rws) (w : World) (hB : B ≤ w.heap.size) (hs : Rs B w a cap ls) (hl : ls.length ≤ 1000) (hm : ∀ x ∈ ls, x.length ≤ 1000) :
    Calls Try.prog 10 #[.slice a ls.length cap] w (RedPost ls w) := by
  obtain ⟨w1, hmk, hnil, hb1⟩ := make_nils ls.length (by omega) w
  have hlin := lines_any w1.heap.size a (some ⟨w.heap.size, 0, none⟩) cap ls.length ls (nilsOf ls) w1 (Nat.le_refl _) (by
      refine ⟨hs.len, hs.most, hs.none, hs.here.imp id fun ⟨b, off, e, hb, hr⟩ => ⟨b, off, e, by have := hb1.size; omega, fun i hi => ?_⟩⟩
      obtain ⟨a', c', h1, h2⟩ := hr i hi
      exact ⟨a', c', (hb1.cell (p := ⟨b, off + i, none⟩) (by show b < _; omega)).trans h1, Rw.of_sl (h2.sl.below hb1)⟩) hnil (by simp [nilsOf]) (by omega) (fun x hx => Nat.le_trans (hm x hx) (by omega)) (fun x hx => by rw [List.eq_of_mem_replicate hx]; simp)
  rw [show (nilsOf ls).length = ls.length from List.length_replicate] at hlin
  have HL := Lib.hid hlin
  have hNN := longN_le hm
  have HD : Hid (∀ w2 g ps, w1.heap.size ≤ g → w2.heap[g]? = some (.cells (enc3 (ps.map (·.1))).toArray 48 (0, 0)) → Lns w1.heap.size w2 ps → (ps.map (·.2)).Perm (List.zipWith Ln.mk ls (nilsOf ls)) → (ps.map fun p => p.2.row.length).Pairwise (· ≤ ·) → Below w1.heap.size w1 w2 →
      Calls Try.prog 18 #[.slice (some ⟨g, 0, none⟩) ls.length ls.length] w2 (DonePost 0 (longN ls) ls (nilsOf ls) w1)) := fun w2 g ps h1 h2 h3 h4 h5 h6 =>
    done_any hl (Nat.zero_le _) (longN_le hm) hs.byte (fun x hx => by rw [List.eq_of_mem_replicate hx]; simp [IsByte]) longN_ge (fun x hx => by rw [List.eq_of_mem_replicate hx]; rfl) (by simp [nilsOf]) h1 h2 h3 h4 h5 h6
  have HLG : Hid (∀ w', Below w.heap.size w w' → Calls Try.prog 21 #[.slice a ls.length cap] w' fun e w'' => e = .returned (.int .i64 ((longN ls : Nat) : Int)) ∧ w' = w'') := fun w' hb => longest_any B a cap ls w' (hs.keep hB (Keep.of_below hb))
  have HBY := Lib.hid hs.byte
  have HM := Lib.hid hm
  have HB1 := Lib.hid hb1
  have hlm := hs.lt
  clear hs hm hlin hnil hb1
  go_enter Try.func10, Try.ntmps10
  go_wp2_with fail
  (with_reducible refine HL.out.mono ?_)
  rintro e w2 ⟨g, ps, rfl, h1, h2, h3, h4, h5, h6⟩
  have hd := HD.out w2 g ps h1 h2 h3 h4 h5 h6
  clear h1 h2 h3 h4 h5 h6 HL HD hmk
  go_wp2_with fail
  (with_reducible refine hd.mono ?_)
  rintro e w3 ⟨v, ys, zs, rfl, E⟩
  have HB3 : Hid (Below w.heap.size w w3) := HB1.out.trans (E.low.mono HB1.out.size)
  obtain ⟨B3, hb3, ho3⟩ := E.own
  obtain ⟨a3, c3, rfl, hc1, hc2, -, -⟩ := own_form ho3
  have hc3 : c3 ≤ 9223372036854775807 := by unfold maxLen at hc1; omega
  have HE := Lib.hid E
  have hlg := HLG.out w3 HB3.out
  have hcl := cleared_any E (Nat.zero_le _) hNN
  have hfew : ys.length ≤ 1000 := by
    obtain ⟨D, hp, hi⟩ := E.inv
    have := hi.few
    rw [List.length_map] at this; omega
  clear hd E hb3 ho3 hc1 HLG
  go_wp2_with ((with_reducible refine hlg.mono ?_); rintro e w' ⟨rfl, rfl⟩)
  (with_reducible refine hcl.mono ?_)
  rintro e w4 ⟨xs, rfl, C, hb4⟩
  have HC := Lib.hid C
  have HB4 : Hid (Below w.heap.size w w4) := HB1.out.trans (hb4.mono HB1.out.size)
  have hxl : Hid (xs.length = ys.length) := C.len
  have hz4 : w.heap.size ≤ w4.heap.size := HB4.out.size
  clear hcl hlg C hb4
  go_wp2_with fail
  go_loopw [6, 7, 25] (fun v6 v7 i wr => ∃ k : Nat, k ≤ ys.length ∧ i = .int .i64 k ∧ Hid (Own w4.heap.size wr v6 (redRows (longN ls) ys k)) ∧ Hid (OwnI w4.heap.size wr v7 ((redLeads ys).take k)) ∧ Hid (Keep w4.heap.size w4 wr)) (fun _ _ i _ => ys.length - (intOf i).toNat)
  case atStart => exact ⟨0, by omega, rfl, Own.nil _ _, OwnI.nil _ _, Keep.refl _ _⟩
  case round =>
    obtain ⟨k, hk, rfl, HO, HP, HK⟩ := hrel
    by_cases hlt : k < ys.length
    · have hltz : (k : Int) < (ys.length : Int) := by omega
      have hkx : k < xs.length := by rw [hxl.out]; exact hlt
      obtain ⟨B5, cur, rfl, hSB⟩ := HC.out.ls.some hkx
      have hck := hSB.cells k hkx
      have hB5 : B5 < w4.heap.size := hck.lt
      have hbw : Below w4.heap.size w4 wr := HK.out.below (Nat.le_refl _)
      obtain ⟨s0, s1, s2⟩ := hck.cell
      have s0 := (hbw.cell (p := ⟨B5, k * 3, none⟩) hB5).trans s0
      have s1 := (hbw.cell (p := ⟨B5, k * 3 + 1, none⟩) hB5).trans s1
      have s2 := (hbw.cell (p := ⟨B5, k * 3 + 2, none⟩) hB5).trans s2
      obtain ⟨hline, hld⟩ := HC.out.line k hkx hlt
      rw [hld] at s2
      have hok : IsByte (clearL (longN ls) (ys.map (·.2)) k).row := by
        obtain ⟨D, hp, hi⟩ := HE.out.inv
        exact (clear_any (i := k) hi.okS hi.up (by rw [List.length_map]; exact hlt)).ok.row
      have hclen : (clearL (longN ls) (ys.map (·.2)) k).row.length ≤ 1000 := by
        obtain ⟨D, hp, hi⟩ := HE.out.inv
        rw [(clear_any (i := k) hi.okS hi.up (by rw [List.length_map]; exact hlt)).len]; exact hNN
      have hrw4 : Rw w4.heap.size w4 (some ⟨xs[k].rb, 0, none⟩) xs[k].rl (clearL (longN ls) (ys.map (·.2)) k).row := by
        have := Rw.of_sl (hline.row.sl hok (by omega))
        rwa [← hline.rl] at this
      have HRW := Lib.hid (hrw4.keep HK.out)
      have HRL : Hid (xs[k].rl = (clearL (longN ls) (ys.map (·.2)) k).row.length) := hline.rl
      have HSN := Lib.hid (redRows_snoc (longN ls) ys k)
      have HPN : Hid ((redLeads ys).take (k + 1) = (redLeads ys).take k ++ [ys[k].2.2]) := by
        show _ = _
        rw [take_snoc' (by rw [redLeads, List.length_map]; exact hlt)]
        simp [redLeads]
      have hlr : (redRows (longN ls) ys k).length ≤ 100000 := by simp [redRows]; omega
      have hlp : ((redLeads ys).take k).length ≤ 100000 := by rw [List.length_take]; omega
      generalize (clearL (longN ls) (ys.map (·.2)) k).row = m at *
      generalize ys[k].2.2 = q at *
      generalize xs[k] = x at *
      have hwz : w4.heap.size ≤ wr.heap.size := HK.out.size
      clear hSB hck hbw hline hld hok hclen hrw4
      go_upto_region 8 with fail
      have HBA := Lib.hid ((Below.refl wr.heap.size wr).alloc (Nat.le_refl _) (.cells #[.slice (some ⟨x.rb, 0, none⟩) x.rl x.rl, .slice (some ⟨x.gb, 0, none⟩) x.gl x.gl, .int .i64 (q : Int)] 48))
      have b0 : (wr.alloc (.cells #[.slice (some ⟨x.rb, 0, none⟩) x.rl x.rl, .slice (some ⟨x.gb, 0, none⟩) x.gl x.gl, .int .i64 (q : Int)] 48)).cell? ⟨wr.heap.size, 0, none⟩ = some (.slice (some ⟨x.rb, 0, none⟩) x.rl x.rl) := by simp
      have b2 : (wr.alloc (.cells #[.slice (some ⟨x.rb, 0, none⟩) x.rl x.rl, .slice (some ⟨x.gb, 0, none⟩) x.gl x.gl, .int .i64 (q : Int)] 48)).cell? ⟨wr.heap.size, 2, none⟩ = some (.int .i64 (q : Int)) := by simp
      have hBq : wr.heap.size < (wr.alloc (.cells #[.slice (some ⟨x.rb, 0, none⟩) x.rl x.rl, .slice (some ⟨x.gb, 0, none⟩) x.gl x.gl, .int .i64 (q : Int)] 48)).heap.size := by simp
      have HOA := Lib.hid (HO.out.keep HBA.out)
      have HPA := Lib.hid (HP.out.below HBA.out)
      have HKA := Lib.hid (HK.out.trans (Keep.of_below HBA.out))
      have HRA := Lib.hid (HRW.out.below HBA.out)
      have hnq : Hid (u6.ownBlock ≠ some wr.heap.size) := by
        obtain ⟨xs, ho⟩ := HO.out.row
        exact own_ne_new ho
      generalize wr.alloc (.cells #[.slice (some ⟨x.rb, 0, none⟩) x.rl x.rl, .slice (some ⟨x.gb, 0, none⟩) x.gl x.gl, .int .i64 (q : Int)] 48) = wa at *
      generalize wr.heap.size = bq at *
      clear HBA HO HP HK HRW s0 s1 s2
      go_upto_region 9 with (at_builtin; refine wpList_push_rows2 _ rfl _ _ rfl w4.heap.size _ _ rfl (HOA.out.keep ((Below.refl _ _).alloc (Nat.le_refl _) _)) wa.heap.size rfl (some ⟨x.rb, 0, none⟩) x.rl m (by rw [← HRL.out]; simp) (HRA.out.below ((Below.refl _ _).alloc (Nat.le_refl _) _)) (by have := HKA.out.size; simp; omega) hlr ?_; intro v5 w5 HO5 HK5)
      have b5 : w5.cell? ⟨bq, 2, none⟩ = some (.int .i64 (q : Int)) := by
        rw [World.cell?_of_block (w := wa.alloc (.cells #[.slice (some ⟨x.rb, 0, none⟩) x.rl x.rl] 32)) (a := ⟨bq, 2, none⟩) (HK5.out.2.block bq (by simp; omega) (fun e => hnq.out e.symm))]
        rw [((Below.refl wa.heap.size wa).alloc (Nat.le_refl _) _).cell (p := ⟨bq, 2, none⟩) hBq]
        exact b2
      have HP5 : Hid (OwnI w4.heap.size w5 u7 ((redLeads ys).take k)) := by
        obtain ⟨xs, ho⟩ := (HOA.out.keep ((Below.refl _ _).alloc (Nat.le_refl _) (.cells #[.slice (some ⟨x.rb, 0, none⟩) x.rl x.rl] 32))).row
        exact (HPA.out.below ((Below.refl _ _).alloc (Nat.le_refl _) _)).grown ho HK5.out.2
      have HK6 : Hid (Keep w4.heap.size w4 w5) := (HKA.out.trans (Keep.of_below ((Below.refl _ _).alloc (Nat.le_refl _) _))).trans HK5.out.1
      clear HOA HPA HKA HRA hnq b0 b2 hBq HK5
      go_wp2_with (at_builtin; refine wpList_push_int _ rfl _ _ rfl w4.heap.size _ _ rfl (HP5.out.below ((Below.refl _ _).alloc (Nat.le_refl _) _)) w5.heap.size rfl q (by simp) (by have := HK6.out.size; simp; omega) hlp ?_; intro v6 w6 HP6 hg6)
      have HO6 : Hid (Own w4.heap.size w6 v5 (redRows (longN ls) ys (k + 1))) := by
        rw [HSN.out]
        exact Own.grown (HO5.out.keep ((Below.refl _ _).alloc (Nat.le_refl _) (.cells #[.int .i64 (q : Int)] 3))) (HP5.out.below ((Below.refl _ _).alloc (Nat.le_refl _) _)) hg6 (OwnI.keep_push (HP5.out.below ((Below.refl _ _).alloc (Nat.le_refl _) _)) hg6 (Keep.refl _ _))
      have HK7 : Hid (Keep w4.heap.size w4 w6) := OwnI.keep_push (HP5.out.below ((Below.refl _ _).alloc (Nat.le_refl _) (.cells #[.int .i64 (q : Int)] 3))) hg6 (HK6.out.trans (Keep.of_below ((Below.refl _ _).alloc (Nat.le_refl _) _)))
      have HP7 : Hid (OwnI w4.heap.size w6 v6 ((redLeads ys).take (k + 1))) := by rw [HPN.out]; exact HP6.out
      clear hg6 HP6 HP5 HO5 HK6
      go_roundw
      case rel => exact ⟨k + 1, by omega, by go_num, HO6, HP7, HK7⟩
      case measure => simp [intOf]; omega
    · obtain rfl : k = ys.length := by omega
      have hltz : ¬ (ys.length : Int) < (ys.length : Int) := by omega
      have hr := HE.out.rank (by simp [nilsOf]) HBY.out (K := longN ls) longN_ge
      have hlen : ys.length = rankN ls := by
        have h := congrArg List.length hr
        rw [List.length_map] at h; exact h
      have e : redRows (longN ls) ys ys.length = redOf ls := by
        unfold redRows redOf
        rw [← hlen]
        refine List.map_congr_left fun i hi => ?_
        have hi' := List.mem_range.1 hi
        obtain ⟨D, hp, hinv⟩ := HE.out.inv
        exact reduced_same hinv (zip_same hp (by simp [nilsOf])) HBY.out longN_ge (by rw [List.length_map]; exact hi')
      have ho := HO.out
      rw [e] at ho
      obtain ⟨a1, c1, rfl, hrs⟩ := ho.rs
      have hcm : c1 ≤ 9223372036854775807 := by have := hrs.most; unfold maxLen at this; omega
      have HF : Hid (RedPost ls w (.returned (.tuple #[.slice a1 (redOf ls).length c1, u7])) wr) := by
        refine ⟨a1, c1, u7, rfl, hrs, ?_, HB4.out.trans ((HK.out.below (Nat.le_refl _)).mono hz4)⟩
        have h := HP.out
        rw [show (redLeads ys).take ys.length = redLeads ys from List.take_of_length_le (by simp [redLeads])] at h
        rw [show (echTo (pads ls (longN ls)) (longN ls)).2 = redLeads ys from hr.symm]
        exact own_base h hz4
      clear hr hlen e ho hrs
      clear HO HP HK
      go_wp2_with fail
      go_ret2
      exact HF.out
end Go.Proofs.Ytiglmoggpjgmbaa
