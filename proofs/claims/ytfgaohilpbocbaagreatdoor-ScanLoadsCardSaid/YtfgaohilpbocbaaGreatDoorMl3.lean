/-
  turn, walked.
  A copy of bytes; a copy of a file.
  A copy of the changes that wait.
  A disk as plain data: its tables by what each name means, its changes that wait, its files by number; what stays true of it.
-/
import Derived.Test.YtfgaohilpbocbaaGreatDoorMl2
import Derived.OwnWalk
import Derived.Maps.Ext
section
namespace Go.Proofs.YtfgaohilpbocbaaGreatDoor
open Go.ChangeShapes Go.WideShapes Go.ChangeAt Go.RowKit Go.Joins
set_option linter.unusedVariables false

theorem eql_some (b : Nat) (w : World) : (binOp BinOp.eql 125 (.map (some b)) (.map none)).run Tryz.prog w = .ok (.bool false) w := by kernel_rfl
theorem eql_none (w : World) : (binOp BinOp.eql 125 (.map none) (.map none)).run Tryz.prog w = .ok (.bool true) w := by kernel_rfl
theorem map_nil (t : Option Nat) (w : World) : (binOp BinOp.eql 125 (.map t) (.map none)).run Tryz.prog w = .ok (.bool t.isNone) w := by
  cases t with
  | none => exact eql_none w
  | some b => exact eql_some b w
def useD (u : Int) (F : Nat → Fl) (D : DM) (c : Chg) : Int :=
  if c.dst.size = 0 then wrap64 (wrap64 (u - sizeD F D c.dst) - sizeD F D c.src) else wrap64 (u - sizeD F D c.dst)
/-- The disk's block, its table of names, its row of changes. -/
def Mine (B : Nat) (x : Dk) (k : Nat) : Prop := k = B ∨ x.nm = some k ∨ (Value.slice x.wa x.wl x.wc).ownBlock = some k

structure Tables (ι : Nat → Option Nat) (w0 w : World) (x0 : Dk) (B : Nat) (x : Dk) (nn ns : Nat) (Dn Ds : DM) : Prop where
  at' : DkAt w B x
  cap : x.cap = x0.cap
  fs : x.fs = x0.fs
  fl : x.fl = x0.fl
  gs : x.gs = x0.gs
  gl : x.gl = x0.gl
  lost : x.lost = x0.lost
  nm : ∃ b, x.nm = some b ∧ (x0.nm = some b ∨ w0.heap.size ≤ b) ∧ w.ownsMap Tryz.prog 9 (fileR ι) b nn Dn
  sf : ∃ b, x.sf = some b ∧ (x0.sf = some b ∨ w0.heap.size ≤ b) ∧ w.ownsMap Tryz.prog 9 (fileR ι) b ns Ds
  apart : x.nm ≠ x.sf

theorem bytes_empty {s : ByteArray} (h : s.size = 0) : s.toList.isEmpty = true := by
  rw [ByteArray.toList_eq, bytes_nil.2 h]; rfl
theorem wrap_range (n : Int) : -9223372036854775808 ≤ wrap64 n ∧ wrap64 n ≤ 9223372036854775807 := by unfold wrap64; omega
theorem Files.fr {ι rb : Nat → Option Nat} {F : Nat → Fl} {X : Nat → Prop} {w w' : World} (h : Files ι rb F w) (k : Fr X w w') (h1 : ∀ b i, ι b = some i → ¬ X b) (h2 : ∀ b i, ι b = some i → ∀ r, rb i = some r → ¬ X r) : Files ι rb F w' := fun b i hi => by
  obtain ⟨f1, f2, f3, v, e, ho, hb⟩ := h b i hi
  refine ⟨f1, f2, f3, v, e, ⟨ho.1, ?_⟩, (k.block b (Array.getElem?_eq_some_iff.1 hb).1 (h1 b i hi)).trans hb⟩
  rcases ho.2 with h0 | ⟨g, cap, cur, hv, hg0, hg, r⟩
  · exact .inl h0
  · subst hv
    exact .inr ⟨g, cap, cur, rfl, hg0, (k.block g (Array.getElem?_eq_some_iff.1 hg).1 (h2 b i hi g (by rw [← e]; rfl))).trans hg, r⟩
/-- Neither a file nor its bytes lie in the disk's own block. -/
theorem Files.off {ι rb : Nat → Option Nat} {F : Nat → Fl} {w : World} {B : Nat} {cs : Array Value} {t : TypeId} {fz : Nat × Nat} (h : Files ι rb F w) (hB : w.heap[B]? = some (.cells cs t fz)) (ht : t ≠ 135) (ht2 : t ≠ 5) : (∀ b i, ι b = some i → b ≠ B) ∧ ∀ b i, ι b = some i → ∀ r, rb i = some r → r ≠ B := by
  refine ⟨fun b i hi e => ?_, fun b i hi r hr e => ?_⟩
  · obtain ⟨_, _, _, v, _, _, hb⟩ := h b i hi
    subst e
    rw [hb] at hB
    cases hB
    exact ht rfl
  · obtain ⟨_, _, _, v, e2, ho, _⟩ := h b i hi
    subst e
    rcases ho.2 with ⟨h0, _⟩ | ⟨g, cap, cur, hv, _, hg, _⟩
    · rw [h0] at e2
      rw [hr] at e2
      cases e2
    · subst hv
      have : g = r := Option.some.inj (show some g = some r by rw [← hr, ← e2]; rfl)
      subst this
      rw [hg] at hB
      cases hB
      exact ht2 rfl
structure DMid (ι : Nat → Option Nat) (w : World) (B : Nat) (x : Dk) (nn ns : Nat) (Dn Ds : DM) (g : Nat) (q : Option Addr) (c : Chg) (u : Int) (wx : World) : Prop where
  ex : ∃ x1, Tables ι w wx x B x1 nn ns Dn Ds ∧ x1.used = u ∧ x1.wa = x.wa ∧ x1.wl = x.wl ∧ x1.wc = x.wc
  box : wx.heap[g]? = some (.cells #[.pointer q, .string c.src, .string c.dst] 137 (0, 0))
  fr : Fr (fun k => k = B) w wx
theorem DMid.at' {ι : Nat → Option Nat} {w wx : World} {B : Nat} {x : Dk} {nn ns : Nat} {Dn Ds : DM} {g : Nat} {q : Option Addr} {c : Chg} {u : Int} (h : DMid ι w B x nn ns Dn Ds g q c u wx) : ∃ b cs, wx.cell? ⟨B, 1, none⟩ = some (.int .i64 u) ∧ wx.cell? ⟨B, 2, none⟩ = some (.map (some b)) ∧ wx.heap[B]? = some (.cells cs 130 (0, 0)) ∧ Tab ι wx (some b) nn Dn ∧ wx.cell? ⟨g, 1, none⟩ = some (.string c.src) ∧ wx.cell? ⟨g, 2, none⟩ = some (.string c.dst) ∧ wx.frozen? ⟨B, 1, none⟩ = false := by
  obtain ⟨x1, T, e, -⟩ := h.ex
  obtain ⟨b, hb, -, ho⟩ := T.nm
  refine ⟨b, _, ?_, ?_, T.at'.blk, .inr ⟨b, rfl, ho⟩, ?_, ?_, T.at'.loose 1⟩
  · rw [T.at'.cell]; simp [Dk.cells, e]
  · rw [T.at'.cell]; simp [Dk.cells, hb]
  · rw [cell_of_row wx g 1 _ _ (0, 0) h.box]; rfl
  · rw [cell_of_row wx g 2 _ _ (0, 0) h.box]; rfl
/-- The number of bytes in use is set. -/
theorem DMid.use {ι : Nat → Option Nat} {w wx w8 : World} {B : Nat} {x : Dk} {nn ns : Nat} {Dn Ds : DM} {g : Nat} {q : Option Addr} {c : Chg} {u : Int} (h : DMid ι w B x nn ns Dn Ds g q c u wx) (hb : Below wx.heap.size wx w8) (v : Int) (hv1 : -9223372036854775808 ≤ v) (hv2 : v ≤ 9223372036854775807) : DMid ι w B x nn ns Dn Ds g q c v (w8.setCell ⟨B, 1, none⟩ (.int .i64 v)) := by
  obtain ⟨x1, T, e, e1, e2, e3⟩ := h.ex
  have hD8 : DkAt w8 B x1 := T.at'.fr (X := fun _ => False) (Fr.of_below hb) (fun h => h)
  have ok := hD8.ok
  obtain ⟨b1, n1, n2, n3⟩ := T.nm
  obtain ⟨b2, s1, s2, s3⟩ := T.sf
  have hne : ∀ b n D, wx.ownsMap Tryz.prog 9 (fileR ι) b n D → b ≠ B := fun b n D ho hh => by
    obtain ⟨es, clock, hm, _⟩ := ho
    subst hh
    rw [T.at'.blk] at hm
    cases hm
  refine ⟨⟨{ x1 with used := v }, ⟨hD8.set 1 _ ⟨ok.cap1, ok.cap2, hv1, hv2, ok.fl1, ok.fl2, ok.gl1, ok.gl2, ok.len⟩ (by simp [Dk.cells]), T.cap, T.fs, T.fl, T.gs, T.gl, T.lost, ⟨b1, n1, n2, ?_⟩, ⟨b2, s1, s2, ?_⟩, T.apart⟩, rfl, e1, e2, e3⟩, ?_, ?_⟩
  · exact (own_fr n3 (Fr.of_below (X := fun _ => False) hb) (fun h => h)).setCell (by show b1 ≠ B; exact hne _ _ _ n3) _
  · exact (own_fr s3 (Fr.of_below (X := fun _ => False) hb) (fun h => h)).setCell (by show b2 ≠ B; exact hne _ _ _ s3) _
  · have hgB : g ≠ B := fun e => by
      subst e
      have := h.box
      rw [T.at'.blk] at this
      cases this
    rw [heap_setCell_other _ _ _ _ (by show g ≠ B; exact hgB), hb.block g (Array.getElem?_eq_some_iff.1 h.box).1]
    exact h.box
  · exact (h.fr.later hb).set (fun _ => rfl) _

set_option maxRecDepth 100000 in
set_option maxHeartbeats 4000000 in
theorem turn_any {ι rb : Nat → Option Nat} {F : Nat → Fl} {w : World} {B nn ns : Nat} {x : Dk} {Dn Ds : DM} {l : List (Value × Chg)} (q : Option Addr) (c : Chg) (h : DkAt w B x) (hw : Wts ι w x.wa x.wl x.wc l) (hn : Tab ι w x.nm nn Dn) (hs : Tab ι w x.sf ns Ds) (hf : Files ι rb F w)
    (hnil : x.nm = none ↔ x.sf = none) (hap : x.nm ≠ none → x.nm ≠ x.sf) (hp : fileR ι (.pointer q) = some (idD c.made, [])) (hc : c.src.size ≤ maxLen ∧ c.dst.size ≤ maxLen) (hl : x.wl ≤ 1000) (hnn : nn ≤ 1000000) (hcap : x.wc ≤ maxLen ∧ x.wl ≤ x.wc) :
    Calls Tryz.prog 52 #[.pointer (some ⟨B, 0, none⟩), c.val (.pointer q)] w fun e w' => e = .returned (.tuple #[]) ∧ ∃ x', Tables ι w w' x B x' (nn + 1) ns (c.did Dn) Ds ∧ x'.used = useD x.used F Dn c ∧ x'.wl = x.wl + 1 ∧ (x'.wc ≤ maxLen ∧ x'.wl ≤ x'.wc) ∧ Wts ι w' x'.wa x'.wl x'.wc (l ++ [(.pointer q, c)]) ∧
      (∀ k, (Value.slice x'.wa x'.wl x'.wc).ownBlock = some k → (Value.slice x.wa x.wl x.wc).ownBlock = some k ∨ w.heap.size ≤ k) ∧ Fr (Mine B x) w w' := by
  have HD := Lib.hid h
  have HW := Lib.hid hw
  have HN := Lib.hid hn
  have HS := Lib.hid hs
  have HF := Lib.hid hf
  have HNI := Lib.hid hnil
  have HAP := Lib.hid hap
  have HP := Lib.hid hp
  have HC := Lib.hid hc
  have HCP := Lib.hid hcap
  have hBw := h.lt
  have HFO := Lib.hid (hf.off h.blk (by decide) (by decide))
  have c2 : w.cell? ⟨B, 2, none⟩ = some (.map x.nm) := by rw [h.cell]; simp [Dk.cells]
  clear h hw hn hs hf hnil hap hp hc hcap
  unfold Chg.val
  go_enter Tryz.func52, Tryz.ntmps52
  go_upto_region 1 with fail
  have hDa : DkAt (w.alloc (.cells #[.pointer q, .string c.src, .string c.dst] 137)) B x := HD.out.fr (X := fun _ => False) (Fr.of_below ((Below.refl _ _).alloc (Nat.le_refl _) _)) (fun h => h)
  have hFa : Fr (fun k => k = B) w (w.alloc (.cells #[.pointer q, .string c.src, .string c.dst] 137)) := Fr.of_below ((Below.refl _ _).alloc (Nat.le_refl _) _)
  have a0 : (w.alloc (.cells #[.pointer q, .string c.src, .string c.dst] 137)).heap[w.heap.size]? = some (.cells #[.pointer q, .string c.src, .string c.dst] 137 (0, 0)) := heap_alloc_new w _
  have HNa : Hid (Tab ι (w.alloc (.cells #[.pointer q, .string c.src, .string c.dst] 137)) x.nm nn Dn) := HN.out.fr (X := fun _ => False) (Fr.of_below ((Below.refl _ _).alloc (Nat.le_refl _) _)) (fun _ _ h => h)
  have HSa : Hid (Tab ι (w.alloc (.cells #[.pointer q, .string c.src, .string c.dst] 137)) x.sf ns Ds) := HS.out.fr (X := fun _ => False) (Fr.of_below ((Below.refl _ _).alloc (Nat.le_refl _) _)) (fun _ _ h => h)
  have hsz : (w.alloc (.cells #[.pointer q, .string c.src, .string c.dst] 137)).heap.size = w.heap.size + 1 := by simp
  obtain ⟨wa, hwa⟩ : ∃ wa, wa = w.alloc (.cells #[.pointer q, .string c.src, .string c.dst] 137) := ⟨_, rfl⟩
  rw [← hwa] at hDa hFa a0 HNa HSa hsz ⊢
  clear hwa c2
  have A0 := Lib.hid a0
  have HFa := Lib.hid hFa
  have HDa := Lib.hid hDa
  have c2 : wa.cell? ⟨B, 2, none⟩ = some (.map x.nm) := by rw [hDa.cell]; simp [Dk.cells]
  have c3 : wa.cell? ⟨B, 3, none⟩ = some (.map x.sf) := by rw [hDa.cell]; simp [Dk.cells]
  have f2 := hDa.loose 2
  have f3 := hDa.loose 3
  obtain ⟨g, hg⟩ : ∃ g, g = w.heap.size := ⟨_, rfl⟩
  rw [← hg] at hsz A0 hBw ⊢
  have HG := Lib.hid hg
  clear hg hDa hFa a0
  have hml := map_nil x.nm
  have hmk : ∀ w, (Instr.makeMap 125 none).run Tryz.prog w = .ok (.map (some w.heap.size)) (w.alloc (.map #[] 0)) := fun w => rfl
  go_upto_if 8 with fail
  go_cut [9] (fun s9 wx => Hid (DMid ι w B x nn ns Dn Ds g q c x.used wx))
  case first =>
    cases hnm : x.nm with
    | some b =>
      obtain ⟨bs, hsf⟩ : ∃ bs, x.sf = some bs := by
        cases hsf : x.sf with
        | none => rw [HNI.out.2 hsf] at hnm; cases hnm
        | some bs => exact ⟨bs, rfl⟩
      have HE := Lib.hid (And.intro hnm hsf)
      clear hsf
      go_wp2_with fail
      go_meet
      refine ⟨⟨x, ⟨HDa.out, rfl, rfl, rfl, rfl, rfl, rfl, ⟨b, HE.out.1, .inl HE.out.1, ?_⟩, ⟨bs, HE.out.2, .inl HE.out.2, ?_⟩, HAP.out (by rw [HE.out.1]; simp)⟩, rfl, rfl, rfl, rfl⟩, A0.out, HFa.out⟩
      · rcases HNa.out with ⟨e, _⟩ | ⟨b', e, ho⟩
        · rw [HE.out.1] at e; cases e
        · rw [HE.out.1] at e; cases e; exact ho
      · rcases HSa.out with ⟨e, _⟩ | ⟨b', e, ho⟩
        · rw [HE.out.2] at e; cases e
        · rw [HE.out.2] at e; cases e; exact ho
    | none =>
      have hsf := HNI.out.1 hnm
      rw [hsf] at c3
      rw [hnm] at c2
      have hD2 : DkAt ((wa.alloc (.map #[] 0)).alloc (.map #[] 0)) B x := HDa.out.fr (X := fun _ => False) (Fr.of_below (((Below.refl wa.heap.size wa).alloc (Nat.le_refl _) _).alloc (by simp) _)) (fun h => h)
      have ok := hD2.ok
      have m2 : ((wa.alloc (.map #[] 0)).alloc (.map #[] 0)).cell? ⟨B, 2, none⟩ = some (.map none) := by rw [hD2.cell]; simp [Dk.cells, hnm]
      have m3 : ((wa.alloc (.map #[] 0)).alloc (.map #[] 0)).cell? ⟨B, 3, none⟩ = some (.map none) := by rw [hD2.cell]; simp [Dk.cells, hsf]
      have l2 := hD2.loose 2
      have l3 := hD2.loose 3
      have hD3 := hD2.set (y := { x with nm := some (g + 1) }) 2 (.map (some (g + 1))) ⟨ok.cap1, ok.cap2, ok.used1, ok.used2, ok.fl1, ok.fl2, ok.gl1, ok.gl2, ok.len⟩ (by simp [Dk.cells])
      have hD4 := hD3.set (y := { x with nm := some (g + 1), sf := some (g + 1 + 1) }) 3 (.map (some (g + 1 + 1))) ⟨ok.cap1, ok.cap2, ok.used1, ok.used2, ok.fl1, ok.fl2, ok.gl1, ok.gl2, ok.len⟩ (by simp [Dk.cells])
      have hF2 : Fr (fun k => k = B) w ((wa.alloc (.map #[] 0)).alloc (.map #[] 0)) := HFa.out.later (((Below.refl wa.heap.size wa).alloc (Nat.le_refl _) _).alloc (by simp) _)
      have hF4 : Fr (fun k => k = B) w ((((wa.alloc (.map #[] 0)).alloc (.map #[] 0)).setCell ⟨B, 2, none⟩ (.map (some (g + 1)))).setCell ⟨B, 3, none⟩ (.map (some (g + 1 + 1)))) := (hF2.set (fun _ => rfl) _).set (fun _ => rfl) _
      have o1 : (wa.alloc (.map #[] 0)).ownsMap Tryz.prog 9 (fileR ι) (g + 1) 0 (.map []) := by
        have := World.ownsMap_made wa Tryz.prog 9 (fileR ι)
        rwa [hsz] at this
      have o2 : ((wa.alloc (.map #[] 0)).alloc (.map #[] 0)).ownsMap Tryz.prog 9 (fileR ι) (g + 1 + 1) 0 (.map []) := by
        have := World.ownsMap_made (wa.alloc (.map #[] 0)) Tryz.prog 9 (fileR ι)
        rwa [World.size_alloc, hsz] at this
      have HO1 : Hid (((((wa.alloc (.map #[] 0)).alloc (.map #[] 0)).setCell ⟨B, 2, none⟩ (.map (some (g + 1)))).setCell ⟨B, 3, none⟩ (.map (some (g + 1 + 1)))).ownsMap Tryz.prog 9 (fileR ι) (g + 1) 0 (.map [])) := ((o1.alloc _).setCell (by show g + 1 ≠ B; omega) _).setCell (by show g + 1 ≠ B; omega) _
      have HO2 : Hid (((((wa.alloc (.map #[] 0)).alloc (.map #[] 0)).setCell ⟨B, 2, none⟩ (.map (some (g + 1)))).setCell ⟨B, 3, none⟩ (.map (some (g + 1 + 1)))).ownsMap Tryz.prog 9 (fileR ι) (g + 1 + 1) 0 (.map [])) := (o2.setCell (by show g + 1 + 1 ≠ B; omega) _).setCell (by show g + 1 + 1 ≠ B; omega) _
      have HB4 : Hid (((((wa.alloc (.map #[] 0)).alloc (.map #[] 0)).setCell ⟨B, 2, none⟩ (.map (some (g + 1)))).setCell ⟨B, 3, none⟩ (.map (some (g + 1 + 1)))).heap[g]? = some (.cells #[.pointer q, .string c.src, .string c.dst] 137 (0, 0))) := by
        show _ = _
        rw [heap_setCell_other _ _ _ _ (by show g ≠ B; omega), heap_setCell_other _ _ _ _ (by show g ≠ B; omega), heap_alloc_old _ _ (by simp; omega), heap_alloc_old _ _ (by omega)]
        exact A0.out
      have HD4 := Lib.hid hD4
      have HF4 := Lib.hid hF4
      have hd1 : Dn = .map [] := by
        rcases HNa.out with ⟨_, e⟩ | ⟨b, e, _⟩
        · exact e
        · rw [hnm] at e; cases e
      have hd2 : Ds = .map [] := by
        rcases HSa.out with ⟨_, e⟩ | ⟨b, e, _⟩
        · exact e
        · rw [hsf] at e; cases e
      have HDD := Lib.hid (And.intro hd1 hd2)
      clear hd1 hd2 hD2 hD3 hD4 hF2 hF4 o1 o2 ok
      go_wp2_with fail
      go_meet
      refine ⟨⟨{ x with nm := some (g + 1), sf := some (g + 1 + 1) }, ⟨HD4.out, rfl, rfl, rfl, rfl, rfl, rfl, ⟨g + 1, rfl, .inr (by rw [← HG.out]; omega), ?_⟩, ⟨g + 1 + 1, rfl, .inr (by rw [← HG.out]; omega), ?_⟩, ?_⟩, rfl, rfl, rfl, rfl⟩, HB4.out, HF4.out⟩
      · rw [HDD.out.1]; exact HO1.out.mono (Nat.zero_le _)
      · rw [HDD.out.2]; exact HO2.out.mono (Nat.zero_le _)
      · intro e
        have : g + 1 = g + 1 + 1 := Option.some.inj e
        omega
  case rest =>
  have HM := hcut
  clear hcut hml hmk c2 c3 f2 f3 HSa HNa HFa HDa A0 hsz
  go_upto_region 3 with fail
  go_cut [28] (fun s28 wx => Hid (DMid ι w B x nn ns Dn Ds g q c (wrap64 (x.used - sizeD F Dn c.dst)) wx))
  case first =>
    obtain ⟨b, cs, m1, m2, mB, mT, mg1, mg2, ml⟩ := HM.out.at'
    have HT := Lib.hid mT
    have HFl : Hid (Files ι rb F wc) := HF.out.fr HM.out.fr (fun b i hi h => HFO.out.1 b i hi h) (fun b i hi r hr h => HFO.out.2 b i hi r hr h)
    have HML : Hid (∀ w8, Below wc.heap.size wc w8 → w8.cell? ⟨B, 1, none⟩ = some (.int .i64 x.used) ∧ w8.frozen? ⟨B, 1, none⟩ = false) := fun w8 hb =>
      ⟨(hb.cell (p := ⟨B, 1, none⟩) (World.block_lt_of_cell? wc _ m1)).trans m1, unfrozen_of_block ((hb.block B (World.block_lt_of_cell? wc _ m1)).trans mB) 1⟩
    have e1 := dcell_up m1
    have e2 := dcell_up m2
    have e3 := dcell_up mg2
    clear m1 m2 mB mT mg1 mg2 ml
    refine growT_begin 14 (by kernel_rfl) ?_
    refine growT_take (by kernel_rfl) [0, 1, 2, 3, 4, 5, 6, 7, 8, 9] 5 _ _ (by kernel_rfl) ?_
    simp only [opsAt, List.getElem?_toArray, List.getElem?_cons_succ, List.getElem?_cons_zero]
    repeat (first | go_big_quiet_step (fail) | quiet_step (fail))
    refine wpQuiet_nil ?_
    intro w3 hw3
    have hb3 := below_of_up hw3
    clear e1 e2 e3
    refine growT_one 10 (by kernel_rfl) hw3 (fun K hK => ?_)
    simp only [stepOf, List.getElem?_toArray, List.getElem?_cons_succ, List.getElem?_cons_zero]
    go_simp
    go_at_call 93
    refine (size_any (HT.out.fr (X := fun _ => False) (Fr.of_below hb3) (fun _ _ h => h)) (HFl.out.fr (X := fun _ => False) (Fr.of_below hb3) (fun _ _ _ h => h) (fun _ _ _ _ _ h => h)) HC.out.2).mono ?_
    rintro e w4 ⟨rfl, rfl⟩
    refine hK.out _ _ (Below.refl _ _) ?_
    clear hK K
    obtain ⟨z, hz⟩ : ∃ z, sizeD F Dn c.dst = z := ⟨_, rfl⟩
    rw [hz]
    have HZ := Lib.hid hz
    clear hz
    refine growT_take (by kernel_rfl) [11, 12, 13] 1 _ _ (by kernel_rfl) ?_
    simp only [opsAt, List.getElem?_toArray, List.getElem?_cons_succ, List.getElem?_cons_zero]
    repeat (first | go_big_quiet_step (fail) | quiet_step (fail))
    refine wpQuiet_nil ?_
    intro w8 hw8
    have hb8 := hb3.trans ((below_of_up hw8).mono hb3.size)
    obtain ⟨k1, k2⟩ := HML.out w8 hb8
    refine growT_last (by kernel_rfl) (by kernel_rfl) (fun K hK => ?_)
    simp only [stepOf, List.getElem?_toArray, List.getElem?_cons_succ, List.getElem?_cons_zero]
    go_simp
    refine hK.out _ _ ?_
    have HR := Lib.hid (HM.out.use hb8 (wrap64 (x.used - z)) (wrap_range _).1 (wrap_range _).2)
    clear hK K k1 k2 hb8 hw8 hb3 hw3 HML HFl HT
    go_wp2_with fail
    go_meet
    rw [HZ.out]
    exact HR.out
  case rest =>
  have HM2 := hcut
  clear hcut HM
  obtain ⟨u1, hu1⟩ : ∃ u1, wrap64 (x.used - sizeD F Dn c.dst) = u1 := ⟨_, rfl⟩
  have HU1 := Lib.hid hu1
  rw [hu1] at HM2
  clear hu1
  obtain ⟨b0, cs0, -, -, -, -, -, n2, -⟩ := HM2.out.at'
  go_upto_if 33 with fail
  clear n2
  go_cut [44] (fun s44 wx => Hid (DMid ι w B x nn ns Dn Ds g q c (useD x.used F Dn c) wx))
  case first =>
    by_cases hto : c.dst.size = 0
    · rw [bytes_empty hto]
      have HUD : Hid (useD x.used F Dn c = wrap64 (u1 - sizeD F Dn c.src)) := by show _ = _; unfold useD; rw [if_pos hto, HU1.out]
      go_upto_region 5 with fail
      obtain ⟨b, cs, m1, m2, mB, mT, mg1, mg2, ml⟩ := HM2.out.at'
      have HT := Lib.hid mT
      have HFl : Hid (Files ι rb F wc) := HF.out.fr HM2.out.fr (fun b i hi h => HFO.out.1 b i hi h) (fun b i hi r hr h => HFO.out.2 b i hi r hr h)
      have HML : Hid (∀ w8, Below wc.heap.size wc w8 → w8.cell? ⟨B, 1, none⟩ = some (.int .i64 u1) ∧ w8.frozen? ⟨B, 1, none⟩ = false) := fun w8 hb =>
        ⟨(hb.cell (p := ⟨B, 1, none⟩) (World.block_lt_of_cell? wc _ m1)).trans m1, unfrozen_of_block ((hb.block B (World.block_lt_of_cell? wc _ m1)).trans mB) 1⟩
      have e1 := dcell_up m1
      have e2 := dcell_up m2
      have e3 := dcell_up mg1
      clear m1 m2 mB mT mg1 mg2 ml
      refine growT_begin 14 (by kernel_rfl) ?_
      refine growT_take (by kernel_rfl) [0, 1, 2, 3, 4, 5, 6, 7, 8, 9] 5 _ _ (by kernel_rfl) ?_
      simp only [opsAt, List.getElem?_toArray, List.getElem?_cons_succ, List.getElem?_cons_zero]
      repeat (first | go_big_quiet_step (fail) | quiet_step (fail))
      refine wpQuiet_nil ?_
      intro w3 hw3
      have hb3 := below_of_up hw3
      clear e1 e2 e3
      refine growT_one 10 (by kernel_rfl) hw3 (fun K hK => ?_)
      simp only [stepOf, List.getElem?_toArray, List.getElem?_cons_succ, List.getElem?_cons_zero]
      go_simp
      go_at_call 93
      refine (size_any (HT.out.fr (X := fun _ => False) (Fr.of_below hb3) (fun _ _ h => h)) (HFl.out.fr (X := fun _ => False) (Fr.of_below hb3) (fun _ _ _ h => h) (fun _ _ _ _ _ h => h)) HC.out.1).mono ?_
      rintro e w4 ⟨rfl, rfl⟩
      refine hK.out _ _ (Below.refl _ _) ?_
      clear hK K
      obtain ⟨z, hz⟩ : ∃ z, sizeD F Dn c.src = z := ⟨_, rfl⟩
      rw [hz]
      have HZ := Lib.hid hz
      clear hz
      refine growT_take (by kernel_rfl) [11, 12, 13] 1 _ _ (by kernel_rfl) ?_
      simp only [opsAt, List.getElem?_toArray, List.getElem?_cons_succ, List.getElem?_cons_zero]
      repeat (first | go_big_quiet_step (fail) | quiet_step (fail))
      refine wpQuiet_nil ?_
      intro w8 hw8
      have hb8 := hb3.trans ((below_of_up hw8).mono hb3.size)
      obtain ⟨k1, k2⟩ := HML.out w8 hb8
      refine growT_last (by kernel_rfl) (by kernel_rfl) (fun K hK => ?_)
      simp only [stepOf, List.getElem?_toArray, List.getElem?_cons_succ, List.getElem?_cons_zero]
      go_simp
      refine hK.out _ _ ?_
      have HR := Lib.hid (HM2.out.use hb8 (wrap64 (u1 - z)) (wrap_range _).1 (wrap_range _).2)
      clear hK K k1 k2 hb8 hw8 hb3 hw3 HML HFl HT
      go_wp2_with fail
      go_meet
      rw [HUD.out, HZ.out]
      exact HR.out
    · rw [bytes_some hto]
      have HUD : Hid (useD x.used F Dn c = u1) := by show _ = _; unfold useD; rw [if_neg hto, HU1.out]
      go_wp2_with fail
      go_meet
      rw [HUD.out]
      exact HM2.out
  case rest =>
  have HM3 := hcut
  clear hcut HM2 HU1 cs0 b0
  obtain ⟨x1, T, hu, ha1, hl1, hc1⟩ := HM3.out.ex
  obtain ⟨b, hnm, hnew, hob⟩ := T.nm
  obtain ⟨b2, hsf, hsnew, hos⟩ := T.sf
  have hbB : b ≠ B := fun e => by
    obtain ⟨es, clock, hm, _⟩ := hob
    subst e
    rw [T.at'.blk] at hm; cases hm
  have hb2B : b2 ≠ B := fun e => by
    obtain ⟨es, clock, hm, _⟩ := hos
    subst e
    rw [T.at'.blk] at hm; cases hm
  have hbb : b2 ≠ b := fun e => T.apart (by rw [hnm, hsf, e])
  have hgb : g ≠ b := fun e => by
    obtain ⟨es, clock, hm, _⟩ := hob
    have := HM3.out.box
    subst e
    rw [hm] at this; cases this
  have hgB : g ≠ B := fun e => by
    have := HM3.out.box
    subst e
    rw [T.at'.blk] at this; cases this
  have HWB : Hid (∀ k, (Value.slice x.wa x.wl x.wc).ownBlock = some k → k ≠ B ∧ k ≠ b ∧ k ≠ b2 ∧ k < w.heap.size) := fun k hk => by
    rcases HW.out.row.2 with ⟨h1, _⟩ | ⟨g', cap', cur, hv, _, hg', _⟩
    · rw [h1] at hk; cases hk
    · rw [hv] at hk
      have : g' = k := Option.some.inj hk
      subst this
      have hlt := (Array.getElem?_eq_some_iff.1 hg').1
      refine ⟨fun e => ?_, fun e => ?_, fun e => ?_, hlt⟩
      · subst e; rw [HD.out.blk] at hg'; cases hg'
      · subst e
        rcases hnew with h1 | h1
        · rcases HN.out with ⟨h2, _⟩ | ⟨b', h2, es, clock, hm, _⟩
          · rw [h2] at h1; cases h1
          · rw [h2] at h1; cases h1
            rw [hm] at hg'; cases hg'
        · omega
      · subst e
        rcases hsnew with h1 | h1
        · rcases HS.out with ⟨h2, _⟩ | ⟨b', h2, es, clock, hm, _⟩
          · rw [h2] at h1; cases h1
          · rw [h2] at h1; cases h1
            rw [hm] at hg'; cases hg'
        · omega
  have HT := Lib.hid T
  have HOB := Lib.hid hob
  have HOS := Lib.hid hos
  have HNM := Lib.hid (And.intro hnm hnew)
  have HSF := Lib.hid (And.intro hsf hsnew)
  have HX1 := Lib.hid (And.intro hu (And.intro ha1 (And.intro hl1 hc1)))
  have m2 : wc.cell? ⟨B, 2, none⟩ = some (.map (some b)) := by rw [T.at'.cell]; simp [Dk.cells, hnm]
  have g0 : wc.cell? ⟨g, 0, none⟩ = some (.pointer q) := by rw [cell_of_row wc g 0 _ _ (0, 0) HM3.out.box]; rfl
  have g1 : wc.cell? ⟨g, 1, none⟩ = some (.string c.src) := by rw [cell_of_row wc g 1 _ _ (0, 0) HM3.out.box]; rfl
  have g2 : wc.cell? ⟨g, 2, none⟩ = some (.string c.dst) := by rw [cell_of_row wc g 2 _ _ (0, 0) HM3.out.box]; rfl
  have e0 := dcell_up g0
  have e1 := dcell_up g1
  have e2 := dcell_up g2
  have e3 := dcell_up m2
  clear g0 g1 g2 m2 T hob hos hnm hnew hsf hsnew hu ha1 hl1 hc1
  go_upto_region 6 with fail
  refine growT_begin 5 (by kernel_rfl) ?_
  refine growT_take (by kernel_rfl) [0, 1, 2, 3, 4] 1 _ _ (by kernel_rfl) ?_
  simp only [opsAt, List.getElem?_toArray, List.getElem?_cons_succ, List.getElem?_cons_zero]
  repeat (first | go_big_quiet_step (fail) | quiet_step (fail))
  refine wpQuiet_nil ?_
  intro w8 hw8
  have hb8 := below_of_up hw8
  have HO8 := Lib.hid (own_fr HOB.out (Fr.of_below (X := fun _ => False) hb8) (fun h => h))
  clear e0 e1 e2 e3 hw8
  refine growT_last (by kernel_rfl) (by kernel_rfl) (fun K hK => ?_)
  simp only [stepOf, List.getElem?_toArray, List.getElem?_cons_succ, List.getElem?_cons_zero]
  go_simp
  go_at_call 94
  refine (apply_any ι b nn Dn c (.pointer q) w8 HP.out HC.out.1 HC.out.2 (by unfold maxLen; omega) HO8.out).mono ?_
  rintro e w9 ⟨rfl, ho9, hg9⟩
  refine hK.out _ _ ?_
  clear hK K HO8
  have hF9 : Fr (fun k => k = b) wc w9 := (Fr.of_below hb8).trans (Fr.of_grown hg9 fun b' e => by cases e; rfl)
  have hFw : Fr (fun k => k = B ∨ k = b) w w9 := (HM3.out.fr.mono fun _ _ h => .inl h).trans (hF9.mono fun _ _ h => .inr h)
  have HB9 := Lib.hid ho9
  have HS9 := Lib.hid (own_fr HOS.out hF9 hbb)
  have HD9 : Hid (DkAt w9 B x1) := HT.out.at'.fr hF9 (fun e => hbB e.symm)
  have HG9 : Hid (w9.heap[g]? = some (.cells #[.pointer q, .string c.src, .string c.dst] 137 (0, 0))) := (hF9.block g (Array.getElem?_eq_some_iff.1 HM3.out.box).1 hgb).trans HM3.out.box
  have HW9 : Hid (Wts ι w9 x.wa x.wl x.wc l) := HW.out.fr hFw fun p hp h => by
    have := HWB.out p.block (by rw [hp]; rfl)
    rcases h with h | h
    · exact this.1 h
    · exact this.2.1 h
  have HFw := Lib.hid hFw
  have m4 : w9.cell? ⟨B, 4, none⟩ = some (.slice x.wa x.wl x.wc) := by rw [HD9.out.cell]; simp [Dk.cells, HX1.out.2.1, HX1.out.2.2.1, HX1.out.2.2.2]
  have g0 : w9.cell? ⟨g, 0, none⟩ = some (.pointer q) := by rw [cell_of_row w9 g 0 _ _ (0, 0) HG9.out]; rfl
  have g1 : w9.cell? ⟨g, 1, none⟩ = some (.string c.src) := by rw [cell_of_row w9 g 1 _ _ (0, 0) HG9.out]; rfl
  have g2 : w9.cell? ⟨g, 2, none⟩ = some (.string c.dst) := by rw [cell_of_row w9 g 2 _ _ (0, 0) HG9.out]; rfl
  have hw9z : w.heap.size ≤ w9.heap.size := hFw.size
  have e0 := dcell_up g0
  have e1 := dcell_up g1
  have e2 := dcell_up g2
  have e4 := dcell_up m4
  clear g0 g1 g2 m4 ho9 hg9 hF9 hFw hb8 HM3 HOB HOS
  go_upto_region 7 with fail
  refine growT_begin 7 (by kernel_rfl) ?_
  refine growV_take (post := [0, 8, 9, 10]) (by kernel_rfl) [0, 1, 2, 3, 4, 5] 5 _ _ (by kernel_rfl) ?_
  simp only [opsAt, List.getElem?_toArray, List.getElem?_cons_succ, List.getElem?_cons_zero]
  repeat (first | go_big_quiet_step (fail) | quiet_step (fail))
  refine wpQuiet_nil ?_
  intro w10 hw10
  have hb10 := below_of_up hw10
  clear e0 e1 e2 e4
  refine growT_one 6 (by kernel_rfl) hw10 (fun K hK => ?_)
  simp only [stepOf, List.getElem?_toArray, List.getElem?_cons_succ, List.getElem?_cons_zero]
  go_simp
  refine hK.out _ _ ((Below.refl _ _).alloc (Nat.le_refl _) _) ?_
  clear hK K
  intro w12 hw12
  have hup := below_of_up hw12
  have HN12 : Hid (w12.heap[w10.heap.size]? = some (.cells #[.pointer q, .string c.src, .string c.dst] 137 (0, 0))) := (hup.block w10.heap.size (by simp)).trans (heap_alloc_new w10 _)
  have hb12 : Below w9.heap.size w9 w12 := hb10.trans ((((Below.refl w10.heap.size w10).alloc (Nat.le_refl _) _).trans (hup.mono (by simp))).mono hb10.size)
  have hF12 : Fr (fun _ => False) w9 w12 := Fr.of_below hb12
  have HW12 : Hid (Wts ι w12 x.wa x.wl x.wc l) := HW9.out.fr hF12 (fun _ _ h => h)
  have HB12 := Lib.hid (own_fr HB9.out hF12 (fun h => h))
  have HS12 := Lib.hid (own_fr HS9.out hF12 (fun h => h))
  have HD12 : Hid (DkAt w12 B x1) := HD9.out.fr hF12 (fun h => h)
  have HFw12 : Hid (Fr (fun k => k = B ∨ k = b) w w12) := HFw.out.later hb12
  have hw12z : w.heap.size ≤ w12.heap.size := HFw12.out.size
  generalize w10.heap.size = gn at *
  clear hup hb12 hF12 hw12 hb10 hw10 HW9 HB9 HS9 HD9 HG9 HFw
  refine growV_last (by kernel_rfl) (fun K hK => ?_)
  simp only [stepOf, List.getElem?_toArray, List.getElem?_cons_succ, List.getElem?_cons_zero]
  rw [if_pos (by rfl)]
  refine wp_pushC w12 _ _ rfl x.wa x.wl x.wc l rfl HW12.out gn rfl q c (by rw [cell_of_row w12 gn 0 _ _ (0, 0) HN12.out]; rfl) (by rw [cell_of_row w12 gn 1 _ _ (0, 0) HN12.out]; rfl) (by rw [cell_of_row w12 gn 2 _ _ (0, 0) HN12.out]; rfl) HP.out HC.out hl ?_
  intro wa' wc' w13 HW13 HC13 HF13 HO13
  refine hK.out _ _ ?_
  clear hK K HN12 HW12
  have HB13 := Lib.hid (own_fr HB12.out HF13.out (fun h => (HWB.out b h).2.1 rfl))
  have HS13 := Lib.hid (own_fr HS12.out HF13.out (fun h => (HWB.out b2 h).2.2.1 rfl))
  have HD13 : Hid (DkAt w13 B x1) := HD12.out.fr HF13.out (fun h => (HWB.out B h).1 rfl)
  have c4 : w13.cell? ⟨B, 4, none⟩ = some (.slice x.wa x.wl x.wc) := by rw [HD13.out.cell]; simp [Dk.cells, HX1.out.2.1, HX1.out.2.2.1, HX1.out.2.2.2]
  have f4 := HD13.out.loose 4
  have ok := HD13.out.ok
  have HD14 : Hid (DkAt (w13.setCell ⟨B, 4, none⟩ (.slice wa' (x.wl + 1) wc')) B { x1 with wa := wa', wl := x.wl + 1, wc := wc' }) :=
    HD13.out.set 4 _ ⟨ok.cap1, ok.cap2, ok.used1, ok.used2, ok.fl1, ok.fl2, ok.gl1, ok.gl2, by show x.wl + 1 ≤ _; omega⟩ (by simp [Dk.cells])
  have HB14 : Hid ((w13.setCell ⟨B, 4, none⟩ (.slice wa' (x.wl + 1) wc')).ownsMap Tryz.prog 9 (fileR ι) b (nn + 1) (c.did Dn)) := HB13.out.setCell (by show b ≠ B; exact hbB) _
  have HS14 : Hid ((w13.setCell ⟨B, 4, none⟩ (.slice wa' (x.wl + 1) wc')).ownsMap Tryz.prog 9 (fileR ι) b2 ns Ds) := HS13.out.setCell (by show b2 ≠ B; exact hb2B) _
  have HW14 : Hid (Wts ι (w13.setCell ⟨B, 4, none⟩ (.slice wa' (x.wl + 1) wc')) wa' (x.wl + 1) wc' (l ++ [(.pointer q, c)])) := HW13.out.fr (Fr.of_only (X := fun k => k = B) (Only.set B 4 w13 _) rfl) fun p hp h => by
    have hk : (Value.slice wa' (x.wl + 1) wc').ownBlock = some p.block := by rw [hp]; rfl
    rcases HO13.out _ hk with h1 | h1
    · exact (HWB.out _ h1).1 h
    · have := HD12.out.lt; omega
  have HF14 : Hid (Fr (Mine B x) w (w13.setCell ⟨B, 4, none⟩ (.slice wa' (x.wl + 1) wc'))) := by
    have h1 : Fr (Mine B x) w w12 := HFw12.out.mono fun k hk h => by
      rcases h with h | h
      · exact .inl h
      · rcases HNM.out.2 with h2 | h2
        · exact .inr (.inl (by rw [h]; exact h2))
        · omega
    refine (h1.trans (HF13.out.mono fun k hk h => .inr (.inr h))).set (fun _ => .inl rfl) _
  have HO14 : Hid (∀ k, (Value.slice wa' (x.wl + 1) wc').ownBlock = some k → (Value.slice x.wa x.wl x.wc).ownBlock = some k ∨ w.heap.size ≤ k) := fun k hk => (HO13.out k hk).imp id fun e => by rw [e]; exact hw12z
  clear HB12 HS12 HD12 HB13 HS13 HD13 ok HW13 HF13 HO13 HFw12
  refine growV_then 8 (by kernel_rfl) (by kernel_rfl) (by decide) (fun K hK => ?_)
  simp only [stepOf, List.getElem?_toArray, List.getElem?_cons_succ, List.getElem?_cons_zero]
  go_simp
  refine hK.out _ _ ?_
  clear hK K
  refine growV_then 9 (by kernel_rfl) (by kernel_rfl) (by decide) (fun K hK => ?_)
  simp only [stepOf, List.getElem?_toArray, List.getElem?_cons_succ, List.getElem?_cons_zero]
  go_simp
  refine hK.out _ _ ?_
  clear hK K
  refine growV_then 10 (by kernel_rfl) (by kernel_rfl) (by decide) (fun K hK => ?_)
  simp only [stepOf, List.getElem?_toArray, List.getElem?_cons_succ, List.getElem?_cons_zero]
  go_simp
  refine hK.out _ _ ?_
  clear hK K
  refine growV_done (by kernel_rfl) ?_
  go_wp2_with fail
  go_end0
  refine ⟨rfl, { x1 with wa := wa', wl := x.wl + 1, wc := wc' }, ⟨HD14.out, HT.out.cap, HT.out.fs, HT.out.fl, HT.out.gs, HT.out.gl, HT.out.lost, ⟨b, HNM.out.1, HNM.out.2, HB14.out⟩, ⟨b2, HSF.out.1, HSF.out.2, HS14.out⟩, HT.out.apart⟩, HX1.out.1, rfl, HC13.out, HW14.out, HO14.out, HF14.out⟩
end Go.Proofs.YtfgaohilpbocbaaGreatDoor
end

section
namespace Go.Proofs.YtfgaohilpbocbaaGreatDoor
open Go.ChangeShapes Go.WideShapes Go.ChangeAt Go.RowKit Go.Joins
set_option linter.unusedVariables false

theorem infoB : (Tryz.prog.info? 5).map (fun i => (i.zero, i.size, i.bytes)) = some (some (.int .u8 0), 1, 1) := by kernel_rfl
theorem eqs_none (w : World) : (binOp BinOp.eql 53 (.slice none 0 0) (.slice none 0 0)).run Tryz.prog w = .ok (.bool true) w := by kernel_rfl
theorem eqs_some (g n cap : Nat) (w : World) : (binOp BinOp.eql 53 (.slice (some ⟨g, 0, none⟩) n cap) (.slice none 0 0)).run Tryz.prog w = .ok (.bool false) w := by kernel_rfl
/-- A row of bytes that lies behind w0. -/
structure NewB (w0 w' : World) (v : Value) (n : Nat) (xs : List Value) : Prop where
  row : w'.ownsRow 0 5 1 v n xs
  new : ∀ k, v.ownBlock = some k → w0.heap.size ≤ k
  low : Below w0.heap.size w0 w'

set_option maxRecDepth 100000 in
theorem cloneB_any {w : World} {v : Value} {n : Nat} {xs : List Value} (h : w.ownsRow 0 5 1 v n xs) (hn : n ≤ 1000000) (h1 : ∀ u ∈ xs, u.oneCell' = true) :
    Calls Tryz.prog 96 #[v] w fun e w' => ∃ v', e = .returned v' ∧ NewB w w' v' n xs := by
  rcases h.2 with ⟨rfl, rfl⟩ | ⟨g, cap, cur, rfl, -, hg, hnc, hcm, -, -⟩
  · have hx : xs = [] := List.eq_nil_of_length_eq_zero (by simpa using h.1)
    subst hx
    have HR : Hid (NewB w w (.slice none 0 0) 0 []) := ⟨World.ownsRow_nil _ _ _ _, fun k hk => (by cases hk), Below.refl _ _⟩
    have hq := eqs_none w
    clear h h1
    go_enter Tryz.func96, Tryz.ntmps96
    go_wp2_with fail
    go_ret
    exact ⟨_, rfl, HR.out⟩
  · obtain ⟨i0, hi, hz0, hz1, hz2⟩ := info_c infoB
    have HI := Lib.hid (And.intro hi (And.intro hz0 (And.intro hz1 hz2)))
    have HX : Hid (∀ j u, xs[j]? = some u → (w.alloc (.cells #[] 5)).cell? ((⟨g, 0, none⟩ : Addr).add j) = some u) := fun j u hj => by
      have := h.cells (g := g) rfl j u hj
      have hlt := World.block_lt_of_cell? w _ this
      exact (World.cell?_alloc_lt w _ (a := (⟨g, 0, none⟩ : Addr).add j) hlt).trans this
    have HO : Hid ((w.alloc (.cells #[] 5)).ownsRow 0 5 1 (.slice (some ⟨w.heap.size, 0, none⟩) 0 0) 0 []) := World.ownsRow_made w #[] 0 (Nat.zero_le _) (Nat.zero_le _) rfl
    have HL : Hid (xs.length = n * 1) := h.1
    have H1 := Lib.hid h1
    have hcz : cap ≤ 9223372036854775807 := by unfold maxLen at hcm; omega
    have hq := eqs_some g n cap w
    clear h hi hz0 hz1 hz2 hg h1 hcm
    go_enter Tryz.func96, Tryz.ntmps96
    go_wp2_with (at_builtin; refine wpList_append_own_at _ rfl _ _ 53 rfl 0 5 i0 (.int .u8 0) 1 1 Tryz.underlying53 HI.out.1 HI.out.2.1 HI.out.2.2.1 HI.out.2.2.2 rfl (by decide) _ 0 [] rfl HO.out ⟨g, 0, none⟩ n cap xs rfl HL.out HX.out H1.out (by unfold maxLen; omega) (by omega) (Nat.zero_le _) ?_; intro v' w1 hown1 hg1 _ hat)
    have HR : Hid (NewB w w1 v' n xs) := by
      refine ⟨by simpa using hown1, fun k hk => ?_, ⟨hg1.os, hg1.tape, hg1.output, ?_, fun k hk => ?_⟩⟩
      · rcases hat with e | e
        · rw [e] at hk
          have : w.heap.size = k := Option.some.inj hk
          omega
        · rw [e] at hk
          have : (w.alloc (.cells #[] 5)).heap.size = k := Option.some.inj hk
          simp at this
          omega
      · have := hg1.size
        simp at this
        omega
      · rw [hg1.block k (by simp; omega) (fun e => by have : k = w.heap.size := Option.some.inj e; omega)]
        exact heap_alloc_old w _ hk
    clear hown1 hg1 hat
    go_wp2_with fail
    go_ret
    exact ⟨_, rfl, HR.out⟩

/-- A file's copy: in new blocks, its own and its bytes'. -/
def FilePost (f : Fl) (w : World) (e : Ending) (w' : World) : Prop :=
  ∃ b r, e = .returned (.pointer (some ⟨b, 0, none⟩)) ∧ w.heap.size ≤ b ∧ (∀ k, r = some k → w.heap.size ≤ k ∧ k ≠ b) ∧ FileAt w' b r f ∧ Below w.heap.size w w'

end Go.Proofs.YtfgaohilpbocbaaGreatDoor
end

section
namespace Go.Proofs.YtfgaohilpbocbaaGreatDoor
open Go.ChangeShapes Go.WideShapes Go.ChangeAt Go.RowKit Go.Joins
set_option linter.unusedVariables false

theorem eqc_none (w : World) : (binOp BinOp.eql 126 (.slice none 0 0) (.slice none 0 0)).run Tryz.prog w = .ok (.bool true) w := by kernel_rfl
theorem eqc_some (g n cap : Nat) (w : World) : (binOp BinOp.eql 126 (.slice (some ⟨g, 0, none⟩) n cap) (.slice none 0 0)).run Tryz.prog w = .ok (.bool false) w := by kernel_rfl
theorem encC_one {ι : Nat → Option Nat} {l : List (Value × Chg)} (h : ∀ x ∈ l, fileR ι x.1 = some (idD x.2.made, [])) : ∀ u ∈ dencC l, u.oneCell' = true := fun u hu => by
  obtain ⟨x, hx, hu⟩ := List.mem_flatMap.1 hu
  simp only [List.mem_cons, List.not_mem_nil, or_false] at hu
  rcases hu with rfl | rfl | rfl
  · rcases fileR_inv (h x hx) with ⟨e, _⟩ | ⟨b, i, e, _⟩ <;> rw [e] <;> rfl
  · rfl
  · rfl
/-- The copy: in a row behind w0. -/
def WtsPost (ι : Nat → Option Nat) (len : Nat) (l : List (Value × Chg)) (w0 : World) (e : Ending) (w' : World) : Prop :=
  ∃ a cap, e = .returned (.slice a len cap) ∧ Wts ι w' a len cap l ∧ (cap ≤ maxLen ∧ len ≤ cap) ∧ (∀ k, (Value.slice a len cap).ownBlock = some k → w0.heap.size ≤ k) ∧ Below w0.heap.size w0 w'

end Go.Proofs.YtfgaohilpbocbaaGreatDoor
end

section
namespace Go.Proofs.YtfgaohilpbocbaaGreatDoor
open Go.ChangeShapes Go.WideShapes Go.ChangeAt Go.RowKit Go.Joins
set_option linter.unusedVariables false

theorem keyD_inj {s t : ByteArray} (h : keyD s = keyD t) : s = t := by
  unfold keyD at h
  injection h with h
  obtain ⟨a⟩ := s
  obtain ⟨b⟩ := t
  simp only at h
  have : a = b := by
    cases a; cases b; simpa using h
  rw [this]
theorem keyD_lit (s : ByteArray) : WideAt.IsKeyLit (keyD s) := trivial
/-- The name means the file i. -/
def At (D : DM) (s : ByteArray) (i : Nat) : Prop := ∀ z, D.atKey (keyD s) z = idD (i : Int)
theorem At.has {D : DM} {s : ByteArray} {i : Nat} (h : At D s i) : Maps.has D (keyD s) = true := Maps.has_true_of_atKey h
theorem At.one {D : DM} {s : ByteArray} {i j : Nat} (h : At D s i) (k : At D s j) : i = j := by
  have := (h .nil).symm.trans (k .nil)
  have := idD_inj this
  omega
theorem At.num {D : DM} {s : ByteArray} {i : Nat} (h : At D s i) : numD D s = (i : Int) := by
  unfold numD
  rw [h]
  rfl
/-- Each name means a file, no two the same. -/
structure OkD (D : DM) : Prop where
  isMap : Maps.IsMap D
  all : ∀ s, Maps.has D (keyD s) = true → ∃ i, At D s i
  one : ∀ s t i, At D s i → At D t i → s = t
theorem OkD.empty : OkD (.map []) := ⟨Maps.isMap_empty, fun s h => (by cases h), fun s t i h _ => (by have := At.has h; cases this)⟩
theorem OkD.of_num {D : DM} (h : OkD D) {s : ByteArray} {i : Nat} (hn : numD D s = (i : Int)) : At D s i := by
  cases hh : Maps.has D (keyD s) with
  | true =>
    obtain ⟨j, hj⟩ := h.all s hh
    have := hj.num
    rw [hn] at this
    obtain rfl : i = j := by omega
    exact hj
  | false =>
    unfold numD at hn
    rw [Maps.atKey_of_not_has hh] at hn
    have hn : (-1 : Int) = i := hn
    omega
theorem OkD.none_num {D : DM} (h : OkD D) {s : ByteArray} : numD D s = -1 ↔ Maps.has D (keyD s) = false := by
  cases hh : Maps.has D (keyD s) with
  | true =>
    obtain ⟨j, hj⟩ := h.all s hh
    rw [hj.num]
    constructor
    · intro e; omega
    · intro e; cases e
  | false =>
    unfold numD
    rw [Maps.atKey_of_not_has hh]
    exact ⟨fun _ => rfl, fun _ => rfl⟩
theorem OkD.num_or {D : DM} (h : OkD D) (s : ByteArray) : numD D s = -1 ∨ ∃ i : Nat, numD D s = (i : Int) ∧ At D s i := by
  cases hh : Maps.has D (keyD s) with
  | true =>
    obtain ⟨j, hj⟩ := h.all s hh
    exact .inr ⟨j, hj.num, hj⟩
  | false => exact .inl (h.none_num.2 hh)

theorem key_ne {s t : ByteArray} (h : s ≠ t) : keyD s ≠ keyD t := fun e => h (keyD_inj e)
theorem OkD.del {D : DM} (h : OkD D) (s : ByteArray) : OkD (D.del (keyD s)) := by
  have hat : ∀ t i, At (D.del (keyD s)) t i → At D t i := fun t i ht => by
    have hne : t ≠ s := fun e => by
      subst e
      have := ht.has
      rw [Maps.has_del_same] at this
      cases this
    exact fun z => by rw [← ht z, Maps.atKey_del_other (key_ne hne)]
  refine ⟨h.isMap.del _, fun t ht => ?_, fun t u i h1 h2 => h.one t u i (hat t i h1) (hat u i h2)⟩
  have hne : t ≠ s := fun e => by
    subst e
    rw [Maps.has_del_same] at ht
    cases ht
  rw [Maps.has_del_other (key_ne hne)] at ht
  obtain ⟨i, hi⟩ := h.all t ht
  exact ⟨i, fun z => by rw [Maps.atKey_del_other (key_ne hne)]; exact hi z⟩
theorem del_at {D : DM} {s t : ByteArray} {i : Nat} : At (D.del (keyD s)) t i ↔ t ≠ s ∧ At D t i := by
  constructor
  · intro ht
    have hne : t ≠ s := fun e => by
      subst e
      have := ht.has
      rw [Maps.has_del_same] at this
      cases this
    exact ⟨hne, fun z => by rw [← ht z, Maps.atKey_del_other (key_ne hne)]⟩
  · rintro ⟨hne, ht⟩
    exact fun z => by rw [Maps.atKey_del_other (key_ne hne)]; exact ht z
theorem put_at {D : DM} (h : Maps.IsMap D) {s t : ByteArray} {i j : Nat} : At (D.put (keyD s) (idD (i : Int))) t j ↔ (t = s ∧ j = i) ∨ (t ≠ s ∧ At D t j) := by
  by_cases e : t = s
  · subst e
    constructor
    · intro ht
      have := ht .nil
      rw [Maps.atKey_put_same h (keyD_lit t)] at this
      have := idD_inj this
      exact .inl ⟨rfl, by omega⟩
    · rintro (⟨_, rfl⟩ | ⟨h1, _⟩)
      · exact fun z => Maps.atKey_put_same h (keyD_lit t) _ z
      · exact absurd rfl h1
  · constructor
    · intro ht
      exact .inr ⟨e, fun z => by rw [← ht z, Maps.atKey_put_other (key_ne e)]⟩
    · rintro (⟨h1, _⟩ | ⟨_, ht⟩)
      · exact absurd h1 e
      · exact fun z => by rw [Maps.atKey_put_other (key_ne e)]; exact ht z
/-- A table with a name more, or with another file for it. -/
theorem OkD.put {D : DM} (h : OkD D) (s : ByteArray) (i : Nat) (hn : ∀ t, t ≠ s → ¬ At D t i) : OkD (D.put (keyD s) (idD (i : Int))) := by
  refine ⟨h.isMap.put _ _, fun t ht => ?_, fun t u j h1 h2 => ?_⟩
  · by_cases e : t = s
    · subst e
      exact ⟨i, fun z => Maps.atKey_put_same h.isMap (keyD_lit t) _ z⟩
    · rw [Maps.has_put_other (key_ne e)] at ht
      obtain ⟨j, hj⟩ := h.all t ht
      exact ⟨j, (put_at h.isMap).2 (.inr ⟨e, hj⟩)⟩
  · rcases (put_at h.isMap).1 h1 with ⟨rfl, rfl⟩ | ⟨e1, a1⟩ <;> rcases (put_at h.isMap).1 h2 with ⟨rfl, e3⟩ | ⟨e2, a2⟩
    · rfl
    · exact absurd a2 (hn u e2)
    · subst e3; exact absurd a1 (hn t e1)
    · exact h.one t u j a1 a2

/-- Changes that follow one another from a table on. -/
inductive DChain : DM → List Chg → Prop
  | nil {D : DM} (h : OkD D) : DChain D []
  | cons {D : DM} {c : Chg} {l : List Chg} (h : OkD D) (hs : c.made = -1 → ∃ i, At D c.src i) (hm : c.made = -1 ∨ ∃ i : Nat, c.made = i ∧ ∀ t, ¬ At D t i) (hr : DChain (c.did D) l) : DChain D (c :: l)
theorem DChain.ok {D : DM} {l : List Chg} (h : DChain D l) : OkD D := by cases h <;> assumption
def didAll (D : DM) (l : List Chg) : DM := l.foldl (fun D c => c.did D) D
theorem didTo_all (l : List (Value × Chg)) (D : DM) (k : Nat) : didTo l D k = didAll D ((l.map Prod.snd).take k) := by
  unfold didTo didAll
  rw [← List.map_take, List.foldl_map]
theorem atKey_of_at {D : DM} {s : ByteArray} {i : Nat} (h : At D s i) : D.atKey (keyD s) (idD (-1)) = idD (i : Int) := h _
/-- What a change does, by names. -/
theorem did_at {D : DM} {c : Chg} (h : OkD D) (hs : c.made = -1 → ∃ i, At D c.src i) (hm : c.made = -1 ∨ ∃ i : Nat, c.made = i ∧ ∀ t, ¬ At D t i) : OkD (c.did D) ∧ ∀ t j, At (c.did D) t j → (∃ u, At D u j) ∨ c.made = (j : Int) := by
  obtain ⟨made, src, dst⟩ := c
  simp only at hs hm
  by_cases h1 : made = -1
  · subst h1
    obtain ⟨i, hi⟩ := hs rfl
    by_cases h2 : dst.size = 0
    · have e : Chg.did ⟨-1, src, dst⟩ D = D.del (keyD src) := by simp [Chg.did, h2]
      rw [e]
      exact ⟨h.del _, fun t j ht => .inl ⟨t, (del_at.1 ht).2⟩⟩
    · have e : Chg.did ⟨-1, src, dst⟩ D = (D.del (keyD src)).put (keyD dst) (idD (i : Int)) := by simp [Chg.did, h2, atKey_of_at hi]
      rw [e]
      refine ⟨(h.del src).put dst i fun t ht hat => ?_, fun t j ht => ?_⟩
      · obtain ⟨h3, h4⟩ := del_at.1 hat
        exact h3 (h.one t src i h4 hi)
      · rcases (put_at (h.del src).isMap).1 ht with ⟨rfl, rfl⟩ | ⟨h3, h4⟩
        · exact .inl ⟨src, hi⟩
        · exact .inl ⟨t, (del_at.1 h4).2⟩
  · obtain ⟨i, rfl, hi⟩ := hm.resolve_left h1
    by_cases h2 : dst.size = 0
    · have e : Chg.did ⟨(i : Int), src, dst⟩ D = D := by simp [Chg.did, h2, h1]
      rw [e]
      exact ⟨h, fun t j ht => .inl ⟨t, ht⟩⟩
    · have e : Chg.did ⟨(i : Int), src, dst⟩ D = D.put (keyD dst) (idD (i : Int)) := by simp [Chg.did, h2, h1]
      rw [e]
      refine ⟨h.put dst i fun t _ hat => hi t hat, fun t j ht => ?_⟩
      rcases (put_at h.isMap).1 ht with ⟨rfl, rfl⟩ | ⟨h3, h4⟩
      · exact .inr rfl
      · exact .inl ⟨t, h4⟩
theorem DChain.snoc {D : DM} {l : List Chg} {c : Chg} (h : DChain D l) (hs : c.made = -1 → ∃ i, At (didAll D l) c.src i) (hm : c.made = -1 ∨ ∃ i : Nat, c.made = i ∧ ∀ t, ¬ At (didAll D l) t i) : DChain D (l ++ [c]) := by
  induction h with
  | nil h => exact .cons h hs hm (.nil (did_at h hs hm).1)
  | cons h h1 h2 hr ih => exact .cons h h1 h2 (ih hs hm)
theorem DChain.take {D : DM} {l : List Chg} (h : DChain D l) : ∀ k, OkD (didAll D (l.take k)) := by
  induction h with
  | nil h => intro k; simpa [didAll] using h
  | cons h h1 h2 hr ih =>
    intro k
    cases k with
    | zero => simpa [didAll] using h
    | succ k => exact ih k
theorem DChain.end {D : DM} {l : List Chg} (h : DChain D l) : OkD (didAll D l) := by
  have := h.take l.length
  rwa [List.take_length] at this
theorem DChain.from {D : DM} {l : List Chg} (h : DChain D l) : ∀ k t j, At (didAll D (l.take k)) t j → (∃ u, At D u j) ∨ ∃ c ∈ l, c.made = (j : Int) := by
  induction h with
  | nil h => intro k t j ht; exact .inl ⟨t, by simpa [didAll] using ht⟩
  | cons h h1 h2 hr ih =>
    intro k t j ht
    cases k with
    | zero => exact .inl ⟨t, ht⟩
    | succ k =>
      rcases ih k t j ht with ⟨u, hu⟩ | ⟨c, hc, e⟩
      · rcases (did_at h h1 h2).2 u j hu with h3 | h3
        · exact .inl h3
        · exact .inr ⟨_, List.mem_cons_self, h3⟩
      · exact .inr ⟨c, List.mem_cons_of_mem _ hc, e⟩

/-- A disk as plain data. -/
structure DSt where
  d : Dk
  Ds : DM
  l : List Chg
  F : Nat → Fl
  next : Nat
  steps : Nat
  tot : Nat
def DSt.Dn (S : DSt) : DM := didAll S.Ds S.l
/-- What stays true of it. -/
structure Inv (S : DSt) : Prop where
  ch : DChain S.Ds S.l
  num : ∀ t i, At S.Ds t i → i < S.next
  made : ∀ c ∈ S.l, c.made = -1 ∨ ∃ i : Nat, c.made = i ∧ i < S.next
  apart : ∀ c ∈ S.l, ∀ i : Nat, c.made = i → ∀ t, ¬ At S.Ds t i
  each : S.l.Pairwise fun a b => a.made = -1 ∨ a.made ≠ b.made
  len : S.l.length ≤ S.steps
  bytes : ∀ i, (S.F i).bytes.length ≤ S.tot
  safe : ∀ i, (S.F i).safe ≤ (S.F i).bytes.length
  byte : ∀ i, ∀ n ∈ (S.F i).bytes, n < 256
theorem Inv.okn {S : DSt} (h : Inv S) : OkD S.Dn := h.ch.end
theorem Inv.oks {S : DSt} (h : Inv S) : OkD S.Ds := h.ch.ok
theorem Inv.numn {S : DSt} (h : Inv S) {t : ByteArray} {i : Nat} (ht : At S.Dn t i) : i < S.next := by
  have := h.ch.from S.l.length t i
  rw [List.take_length] at this
  rcases this ht with ⟨u, hu⟩ | ⟨c, hc, e⟩
  · exact h.num u i hu
  · rcases h.made c hc with h1 | ⟨j, h1, h2⟩
    · omega
    · omega
end Go.Proofs.YtfgaohilpbocbaaGreatDoor
end
