/-
  Package encode's Symbol and Symbols.
-/
import Derived.Test.YtgfcpneblkleiaaEncA
import Derived.Test.YtgfcpneblkleiaaIds
namespace Go.Proofs.Ytgfcpneblkleiaa
open Go.ChangeShapes Go.WideShapes Go.ChangeAt Go.RowKit Go.Joins
set_option linter.unusedVariables false

theorem Rw.raise {B C : Nat} {w : World} {a : Option Addr} {cap : Nat} {l : List Nat} (h : Rw B w a cap l) (hc : B ≤ C) : Rw C w a cap l :=
  ⟨h.sl, fun hl p hp => (h.tag hl p hp).imp (fun h => Nat.lt_of_lt_of_le h hc) id⟩
theorem Rs.raise {B C : Nat} {w : World} {a : Option Addr} {cap : Nat} {ls : Rws} (h : Rs B w a cap ls) (hc : B ≤ C) : Rs C w a cap ls :=
  ⟨h.len, h.most, h.none, h.here.imp id fun ⟨b, off, e, hb, hr⟩ => ⟨b, off, e, Nat.lt_of_lt_of_le hb hc, fun i hi => by
    obtain ⟨a', c', e1, e2⟩ := hr i hi
    exact ⟨a', c', e1, e2.raise hc⟩⟩⟩
/-- The symbol of an ID, of sources that are filled up. -/
def idSym (ls : Rws) (m id : Nat) : List Nat := symTo ls m (rowN ls.length id) ls.length
theorem pads_len (ls : Rws) (m : Nat) : (pads ls m).length = ls.length := by simp [pads]
theorem pads_all (ls : Rws) (m : Nat) : ∀ x ∈ pads ls m, x.length = m := fun x hx => by
  obtain ⟨y, _, rfl⟩ := List.mem_map.1 hx
  exact fillN_len _ _
theorem idSym_ok {ls : Rws} (m id : Nat) (hb : ∀ x ∈ ls, IsByte x) : (idSym ls m id).length = m ∧ IsByte (idSym ls m id) := symTo_ok hb _ (Nat.le_refl _)

def ESymPost (ls : Rws) (m id : Nat) (w : World) (e : Ending) (w' : World) : Prop :=
  Below w.heap.size w w' ∧ ((goodB ls m = true ∧ ∃ g, e = .returned (.tuple #[.slice (some ⟨g, 0, none⟩) m m, .int .i64 0]) ∧ Rw 0 w' (some ⟨g, 0, none⟩) m (idSym ls m id)) ∨ (goodB ls m = false ∧ e = .returned (.tuple #[.slice none 0 0, .int .i64 3])))

/-- encode.sum of sources that are filled up. -/
theorem esum_pads (g : Nat) (ls : Rws) (m id : Nat) (w : World) (hs : Rs w.heap.size w (some ⟨g, 0, none⟩) ls.length (pads ls m)) (h1 : 1 ≤ ls.length) (h64 : ls.length ≤ 64) (hm : m ≤ 256) (hid : id < 4294967296) :
    Calls Try.prog 15 #[.slice (some ⟨g, 0, none⟩) ls.length ls.length, .int .i64 (m : Int), .int .u32 (id : Int)] w (EsPost (idSym ls m id) m w) := by
  have := esum_any g ls.length (pads ls m) m id w hs (pads_len ls m) h1 h64 hm hid (pads_all ls m)
  rw [symTo_pads ls m _ ls.length (Nat.le_refl _)] at this
  exact this

set_option maxHeartbeats 800000 in
theorem esymbol_any (a : Option Addr) (cap : Nat) (ls : Rws) (m id : Nat) (w : World) (hs : Rs w.heap.size w a cap ls) (h1 : 1 ≤ ls.length) (h64 : ls.length ≤ 64) (hm1 : 1 ≤ m) (hm2 : m ≤ 256) (hid : id < 4294967296) :
    Calls Try.prog 9 #[.slice a ls.length cap, .int .i64 (m : Int), .int .u32 (id : Int)] w (ESymPost ls m id w) := by
  have HF := Lib.hid (efill_any a cap ls m w hs h1 h64 hm1 hm2)
  have HS : Hid (∀ (g : Nat) (w' : World), Rs w'.heap.size w' (some ⟨g, 0, none⟩) ls.length (pads ls m) → Calls Try.prog 15 #[.slice (some ⟨g, 0, none⟩) ls.length ls.length, .int .i64 (m : Int), .int .u32 (id : Int)] w' (EsPost (idSym ls m id) m w')) := fun g w' h => esum_pads g ls m id w' h h1 h64 hm2 hid
  clear hs
  go_enter Try.func9, Try.ntmps9
  go_wp2_with fail
  refine HF.out.mono ?_
  rintro e w1 ⟨hb1, h⟩
  have HB1 := Lib.hid hb1
  rcases h with ⟨hg, g, rfl, hr⟩ | ⟨hg, rfl⟩
  · have HG := Lib.hid hg
    have HC := Lib.hid (HS.out g w1 hr)
    clear hg hr hb1 HF HS
    go_wp2_with fail
    refine HC.out.mono ?_
    rintro e w2 ⟨g2, rfl, hr2, hb2⟩
    have HR := Lib.hid hr2
    have HB2 : Hid (Below w.heap.size w w2) := HB1.out.trans (hb2.mono HB1.out.size)
    clear hr2 hb2 HC
    go_wp2_with fail
    go_ret2
    exact ⟨HB2.out, .inl ⟨HG.out, g2, rfl, HR.out⟩⟩
  · have HG := Lib.hid hg
    clear hg hb1 HF HS
    go_wp2_with fail
    go_ret2
    exact ⟨HB1.out, .inr ⟨HG.out, rfl⟩⟩

/-- What encode.fill refuses, encode.Symbol refuses. -/
theorem esymbol_out (a : Option Addr) (cap n : Nat) (hn : n ≤ 1000) (m : Int) (id : Nat) (q : Int) (h : ((m < 1 ∨ 256 < m) ∧ q = 1) ∨ (1 ≤ m ∧ m ≤ 256 ∧ (n < 1 ∨ 64 < n) ∧ q = 5)) (w : World) :
    Calls Try.prog 9 #[.slice a n cap, .int .i64 m, .int .u32 (id : Int)] w fun e w' => e = .returned (.tuple #[.slice none 0 0, .int .i64 q]) ∧ w = w' := by
  have HF := Lib.hid (efill_out a cap n hn m q h w)
  have hq : q = 1 ∨ q = 5 := by omega
  clear h
  rcases hq with rfl | rfl
  all_goals
    go_enter Try.func9, Try.ntmps9
    go_wp2_with fail
    refine HF.out.mono ?_
    rintro e w1 ⟨rfl, rfl⟩
    clear HF
    go_wp2_with fail
    go_ret2
    exact ⟨rfl, rfl⟩

def ESymsPost (ls : Rws) (m : Nat) (ks : List Nat) (w : World) (e : Ending) (w' : World) : Prop :=
  Below w.heap.size w w' ∧ ((goodB ls m = true ∧ ks.length ≤ 64 ∧ ∃ g, e = .returned (.tuple #[.slice (some ⟨g, 0, none⟩) ks.length ks.length, .int .i64 0]) ∧ Rs w'.heap.size w' (some ⟨g, 0, none⟩) ks.length (ks.map (idSym ls m))) ∨ (goodB ls m = true ∧ 64 < ks.length ∧ e = .returned (.tuple #[.slice none 0 0, .int .i64 5])) ∨ (goodB ls m = false ∧ e = .returned (.tuple #[.slice none 0 0, .int .i64 3])))

theorem esymbols_out (a : Option Addr) (cap n : Nat) (hn : n ≤ 1000) (m : Int) (ka : Option Addr) (kn kcap : Nat) (q : Int) (h : ((m < 1 ∨ 256 < m) ∧ q = 1) ∨ (1 ≤ m ∧ m ≤ 256 ∧ (n < 1 ∨ 64 < n) ∧ q = 5)) (w : World) :
    Calls Try.prog 7 #[.slice a n cap, .int .i64 m, .slice ka kn kcap] w fun e w' => e = .returned (.tuple #[.slice none 0 0, .int .i64 q]) ∧ w = w' := by
  have HF := Lib.hid (efill_out a cap n hn m q h w)
  have hq : q = 1 ∨ q = 5 := by omega
  clear h
  rcases hq with rfl | rfl
  all_goals
    go_enter Try.func7, Try.ntmps7
    go_wp2_with fail
    refine HF.out.mono ?_
    rintro e w1 ⟨rfl, rfl⟩
    clear HF
    go_wp2_with fail
    go_ret2
    exact ⟨rfl, rfl⟩

set_option maxRecDepth 100000 in
set_option maxHeartbeats 1000000 in
theorem esymbols_any (a : Option Addr) (cap : Nat) (ls : Rws) (m : Nat) (ka : Option Addr) (kcap : Nat) (ks : List Nat) (w : World) (hs : Rs w.heap.size w a cap ls) (hk : Us w ka kcap ks) (h1 : 1 ≤ ls.length) (h64 : ls.length ≤ 64) (hm1 : 1 ≤ m) (hm2 : m ≤ 256) :
    Calls Try.prog 7 #[.slice a ls.length cap, .int .i64 (m : Int), .slice ka ks.length kcap] w (ESymsPost ls m ks w) := by
  have HF := Lib.hid (efill_any a cap ls m w hs h1 h64 hm1 hm2)
  have HK := Lib.hid hk
  have hkl := hk.lt
  have HS : Hid (∀ (g id : Nat) (w' : World), id < 4294967296 → Rs w'.heap.size w' (some ⟨g, 0, none⟩) ls.length (pads ls m) → Calls Try.prog 15 #[.slice (some ⟨g, 0, none⟩) ls.length ls.length, .int .i64 (m : Int), .int .u32 (id : Int)] w' (EsPost (idSym ls m id) m w')) := fun g id w' hid h => esum_pads g ls m id w' h h1 h64 hm2 hid
  have HSL : Hid (∀ id : Nat, (idSym ls m id).length = m) := fun id => (idSym_ok m id hs.byte).1
  have HPO : Hid (∀ (w' : World) e, Below w.heap.size w w' → ((goodB ls m = true ∧ ks.length ≤ 64 ∧ ∃ g, e = Ending.returned (.tuple #[.slice (some ⟨g, 0, none⟩) ks.length ks.length, .int .i64 0]) ∧ Rs w'.heap.size w' (some ⟨g, 0, none⟩) ks.length (ks.map (idSym ls m))) ∨ (goodB ls m = true ∧ 64 < ks.length ∧ e = .returned (.tuple #[.slice none 0 0, .int .i64 5])) ∨ (goodB ls m = false ∧ e = .returned (.tuple #[.slice none 0 0, .int .i64 3]))) → ESymsPost ls m ks w e w') := fun w' e h1 h2 => ⟨h1, h2⟩
  generalize idSym ls m = F at *
  clear hs hk
  go_enter Try.func7, Try.ntmps7
  go_wp2_with fail
  refine HF.out.mono ?_
  rintro e w1 ⟨hb1, h⟩
  have HB1 := Lib.hid hb1
  rcases h with ⟨hg, g, rfl, hr⟩ | ⟨hg, rfl⟩
  · have HG := Lib.hid hg
    have HR := Lib.hid hr
    clear hg hr hb1 HF
    by_cases hks : 64 < ks.length
    · have hd : (64 : Int) < (ks.length : Int) := by omega
      go_wp2_with fail
      go_ret2
      exact HPO.out _ _ HB1.out (.inr (.inl ⟨HG.out, hks, rfl⟩))
    · have hd : ¬ (64 : Int) < (ks.length : Int) := by omega
      have hmk := make_grid ks.length (by omega) w1
      have HG0 := Lib.hid (Grid.new w1.heap.size ks.length w1 (Nat.le_refl _))
      have HB0 := Lib.hid ((Below.refl w1.heap.size w1).alloc (Nat.le_refl _) (.cells (rowArr ks.length nilV) 30))
      go_wp2_with fail
      clear hmk
      go_loopw [30] (fun i wr => ∃ (j : Nat) (ss : Rws), j ≤ ks.length ∧ i = .int .i64 j ∧ Hid (Grid w1.heap.size wr w1.heap.size ss) ∧ Hid (ss.length = ks.length) ∧ Hid (∀ i (h : i < ss.length) (h2 : i < ks.length), i < j → ss[i] = F ks[i]) ∧ Hid (Below w1.heap.size w1 wr)) (fun i _ => ks.length - (intOf i).toNat)
      case atStart => exact ⟨0, List.replicate ks.length [], by omega, rfl, HG0, by show _ = _; simp, fun i h h2 hi => by omega, HB0⟩
      case round =>
        obtain ⟨j, ss, hj, rfl, HGR, HL, HT, HB⟩ := hrel
        by_cases hlt : j < ks.length
        · obtain ⟨bk, ok, rfl, hbk, hck⟩ := (HK.out.below (HB1.out.trans (HB.out.mono HB1.out.size))).some hlt
          have hid : ks[j] < 4294967296 := HK.out.rng _ (List.getElem_mem hlt)
          have HC := Lib.hid (HS.out g ks[j] wr hid ((HR.out.keep (Nat.le_refl _) (Keep.of_below HB.out)).raise HB.out.size))
          have i1 : (0 : Int) ≤ (j : Int) := by omega
          have i2 : (j : Int) < (ks.length : Int) := by omega
          have HJ : Hid (∀ i (h : i < ks.length), i = j → F ks[i] = F ks[j]) := fun i h e => by subst e; rfl
          obtain ⟨id, hide⟩ : ∃ id, ks[j] = id := ⟨_, rfl⟩
          rw [hide] at hck hid HC HJ
          clear hide
          go_wp2_with fail
          refine HC.out.mono ?_
          rintro e w2 ⟨g2, rfl, hr2, hb2⟩
          have HG1 := Lib.hid (HGR.out.below hb2)
          have HBB : Hid (Below w1.heap.size w1 w2) := HB.out.trans (hb2.mono HB.out.size)
          have hjl : j < ss.length := by rw [HL.out]; exact hlt
          have hgs := HG1.out.set hjl (hr2.up _)
          rw [HSL.out] at hgs
          have HGS := Lib.hid hgs
          have HBS : Hid (Below w1.heap.size w1 (w2.setCell ⟨w1.heap.size, j, none⟩ (.slice (some ⟨g2, 0, none⟩) m m))) := HBB.out.setCell (Nat.le_refl _) _
          obtain ⟨ca, cc, hcell, _⟩ := HG1.out.cell hjl
          have hlo := HG1.out.loose j
          have HT2 : Hid (∀ i (h : i < (ss.set j (F id)).length) (h2 : i < ks.length), i < j + 1 → (ss.set j (F id))[i] = F ks[i]) := fun i h h2 hi => by
            by_cases e : i = j
            · rw [HJ.out i h2 e]; subst e; simp
            · rw [List.getElem_set_ne (Ne.symm e)]; exact HT.out i (by simpa using h) h2 (by omega)
          have HL2 : Hid ((ss.set j (F id)).length = ks.length) := by show _ = _; rw [List.length_set]; exact HL.out
          generalize ss.set j (F id) = ss2 at *
          clear hr2 hgs hb2 HC HJ
          go_wp2_with fail
          go_roundw
          case rel => exact ⟨j + 1, ss2, by omega, by go_num, HGS, HL2, HT2, HBS⟩
          case measure => simp [intOf]; omega
        · obtain rfl : j = ks.length := by omega
          have HE : Hid (ss = ks.map F) := by
            show _ = _
            apply List.ext_getElem
            · rw [HL.out]; simp
            · intro i h1 h2
              rw [HT.out i h1 (by simpa using h2) (by simpa using h2)]; simp
          have HRS := Lib.hid (HGR.out.rs (by rw [HL.out]; omega))
          rw [HL.out, HE.out] at HRS
          go_wp2_with fail
          go_ret2
          exact HPO.out _ _ (HB1.out.trans (HB.out.mono HB1.out.size)) (.inl ⟨HG.out, by omega, _, rfl, HRS.out⟩)
  · have HG := Lib.hid hg
    clear hg hb1 HF HS
    go_wp2_with fail
    go_ret2
    exact HPO.out _ _ HB1.out (.inr (.inr ⟨HG.out, rfl⟩))
end Go.Proofs.Ytgfcpneblkleiaa
