/-
  What a restart does to a disk; New; the names.
-/
import Derived.Test.YtoiggdcgfbjhpaaDskTr
namespace Go.Proofs.Ytoiggdcgfbjhpaa
open Go.ChangeShapes Go.WideShapes Go.ChangeAt Go.RowKit Go.Joins
set_option linter.unusedVariables false

def wakeS (S : St) : St := { S with d := { S.d with fs := false, fl := 0, gs := false, gl := 0, lost := false } }
def keepN (n : Int) (S : St) : Nat := (modD n ((S.l.length : Int) + 1)).toNat
def restartS (n : Int) (ks : List Int) (S : St) : St := wakeS (trimS ks (settleS (keepN n S) S))

/-- The names are a copy of the table that is safe. -/
theorem Semi.named {w1 w2 : World} {B : Nat} {S : St} {g : Gh} {t : Option Nat} (h : Semi w1 B S g) (hl : S.l = []) (hb : Below w1.heap.size w1 w2) (ht : Tab g.ι w2 t g.ns S.Ds) (hn : t = none ↔ g.sf = none) (hnew : ∀ b, t = some b → w1.heap.size ≤ b) :
    Rep (w2.setCell ⟨B, 2, none⟩ (.map t)) B S { g with nm := t, nn := g.ns } := by
  have k : Fr (fun k => k = B) w1 (w2.setCell ⟨B, 2, none⟩ (.map t)) := Fr.set (X := fun k => k = B) (Fr.of_below hb) (p := ⟨B, 2, none⟩) (fun _ => rfl) _
  have hd2 := h.at'.fr (X := fun _ => False) (Fr.of_below hb) (fun h => h)
  have ok := h.at'.ok
  have hB := h.at'.blk
  have hlen : g.l.length = 0 := by rw [← List.length_map (f := Prod.snd), h.l, hl]; rfl
  refine ⟨hd2.set 2 _ ⟨ok.cap1, ok.cap2, ok.used1, ok.used2, ok.fl1, ok.fl2, ok.gl1, ok.gl2, ok.len⟩ (by simp [Dk.cells, Gh.on]), h.l, h.wts.fr k (fun p hp e => ?_), h.wcap, ?_, h.sf.fr k (fun b hb e => ?_), hn, fun hne => ?_, h.nil0, fun b i hi => (h.files b i hi).fr k (fun e => ?_) (fun r hr e => ?_), h.inj, h.injr, h.lt, ?_, h.ns⟩
  · obtain ⟨cur, hb⟩ := wts_block h.wts (b := p.block) (by rw [hp]; rfl)
    rw [e, hB] at hb; cases hb
  · show Tab g.ι _ t g.ns S.Dn
    have e : S.Dn = S.Ds := by unfold St.Dn; rw [hl]; rfl
    rw [e]
    refine ht.fr (Fr.of_only (X := fun j => j = B) (Only.set B 2 w2 _) rfl) (fun b hb e => ?_)
    obtain ⟨_, _, h2⟩ := ht.block hb
    rw [e, hd2.blk] at h2; cases h2
  · obtain ⟨_, _, hb⟩ := h.sf.block hb
    rw [e, hB] at hb; cases hb
  · show t ≠ g.sf
    intro e
    cases ht' : t with
    | none => exact hne ht'
    | some b =>
      obtain ⟨_, _, h2⟩ := h.sf.block (b := b) (by rw [← e]; exact ht')
      have := blk_lt h2
      have := hnew b ht'
      omega
  · obtain ⟨_, hb⟩ := (h.files b i hi).block
    rw [e, hB] at hb; cases hb
  · obtain ⟨_, hb⟩ := (h.files b i hi).bytesBlock hr
    rw [e, hB] at hb; cases hb
  · show g.ns ≤ S.steps
    have := h.ns
    omega

set_option maxRecDepth 100000 in
set_option maxHeartbeats 1000000 in
theorem restart_any {w : World} {B : Nat} {S : St} {g : Gh} (n : Int) (h : Rep w B S g) (hI : Inv S) (hst : S.steps ≤ 900) (hn1 : -9223372036854775808 ≤ n) (hn2 : n ≤ 9223372036854775807) (a : Option Addr) (cap : Nat) (ks : List Int) (hk : Ks w a cap ks) (hfar : ∀ p, a = some p → ks ≠ [] → ¬ Foot B g p.block) :
    Calls Try.prog 13 #[.pointer (some ⟨B, 0, none⟩), .int .i64 n, .slice a ks.length cap] w fun e w' => e = .returned (.tuple #[]) ∧ Did B (restartS n ks S) g w w' := by
  have hlen : g.l.length = S.l.length := by rw [← h.l, List.length_map]
  have hsl := hI.len
  have hmr := modD_range (n := n) (m := (S.l.length : Int) + 1) (by omega)
  have hkn : modD n ((S.l.length : Int) + 1) = ((keepN n S : Nat) : Int) := by unfold keepN; omega
  have hkl : keepN n S ≤ S.l.length := by omega
  have hmd := fun w => modulo_any n ((S.l.length : Int) + 1) hn1 hn2 (by omega) (by omega) w
  rw [hkn] at hmd
  have hset := settle_semi h (keepN n S) hkl hst
  have HKN := Lib.hid (And.intro hkl hkn)
  have H := Lib.hid h
  have HI := Lib.hid hI
  have HST := Lib.hid hst
  have HK := Lib.hid hk
  have HFAR := Lib.hid hfar
  have c4 : w.cell? ⟨B, 4, none⟩ = some (.slice g.wa S.l.length g.wc) := by rw [h.at'.cell, ← hlen]; simp [Dk.cells, Gh.on]
  have hll : S.l.length ≤ 900 := by omega
  clear h hI hst hk hfar hmr hkn hlen hsl hkl
  have HR : Hid (restartS n ks S = wakeS (trimS ks (settleS (keepN n S) S))) := rfl
  generalize keepN n S = N at *
  go_enter Try.func13, Try.ntmps13
  go_wp2_with (go_at_call 32; (with_reducible refine (hmd _).mono ?_); rintro e w1 ⟨rfl, rfl⟩)
  (with_reducible refine hset.mono ?_)
  rintro e w1 ⟨rfl, s1, n1, F1⟩
  have S1 := Lib.hid s1
  have HF1 := Lib.hid F1
  have c3 : w1.cell? ⟨B, 3, none⟩ = some (.map g.sf) := by rw [s1.at'.cell]; simp [Dk.cells, Gh.on, settleG]
  have hcl := cloneM_any (t := g.sf) s1.sf
  clear s1 n1 F1 c4 hmd hset
  go_wp2_with fail
  (with_reducible refine hcl.mono ?_)
  rintro e w2 ⟨t, rfl, ht, htn, hnew, hb⟩
  have R3 := Lib.hid (S1.out.named rfl hb ht htn hnew)
  have HN := Lib.hid (And.intro hnew hb)
  have k2 : w2.cell? ⟨B, 2, none⟩ = some (.map g.nm) := by rw [(S1.out.at'.fr (X := fun _ => False) (Fr.of_below hb) (fun h => h)).cell]; simp [Dk.cells, Gh.on, settleG]
  have kf := (S1.out.at'.fr (X := fun _ => False) (Fr.of_below hb) (fun h => h)).loose 2
  have F3 : Hid (Fr (Foot B g) w (w2.setCell ⟨B, 2, none⟩ (.map t))) := Fr.set (X := Foot B g) (HF1.out.later hb) (p := ⟨B, 2, none⟩) (fun _ => .inl rfl) _
  have HG3 : Hid (∀ j, Foot B { settleG N g with nm := t, nn := (settleG N g).ns } j → Foot B g j ∨ w.heap.size ≤ j) := fun j hj => by
    rcases hj with e | e | e | e | e | e
    · exact .inl (.inl e)
    · exact .inr (Nat.le_trans HF1.out.size (HN.out.1 j e))
    · exact .inl (.inr (.inr (.inl e)))
    · cases e
    · exact .inl (.inr (.inr (.inr (.inr (.inl e)))))
    · exact .inl (.inr (.inr (.inr (.inr (.inr e)))))
  clear ht htn hnew hb hcl c3
  have htr := trim_any R3.out (by have := HI.out.ch.take N; exact this) HST.out a cap ks (HK.out.fr F3.out HFAR.out) (fun p hp hne hf => by
    rcases HG3.out p.block hf with e | e
    · exact HFAR.out p hp hne e
    · rcases HK.out.here with h0 | ⟨b, off, ea, hc⟩
      · exact hne h0
      · rw [ea] at hp; cases hp
        have := World.block_lt_of_cell? w _ (hc 0 (by cases ks with | nil => exact absurd rfl hne | cons _ _ => simp))
        have : b < w.heap.size := this
        have : w.heap.size ≤ b := e
        omega)
  go_wp2_with fail
  (with_reducible refine htr.mono ?_)
  rintro e w4 ⟨rfl, g4, r4, f4, q4⟩
  have HQ := Lib.hid (And.intro f4 q4)
  have R4 := Lib.hid r4
  have c5 : w4.cell? ⟨B, 5, none⟩ = some (.bool (trimS ks (settleS N S)).d.fs) := by rw [r4.at'.cell]; simp [Dk.cells, Gh.on]
  have c6 : w4.cell? ⟨B, 6, none⟩ = some (.int .i64 (trimS ks (settleS N S)).d.fl) := by rw [r4.at'.cell]; simp [Dk.cells, Gh.on]
  have c7 : w4.cell? ⟨B, 7, none⟩ = some (.bool (trimS ks (settleS N S)).d.gs) := by rw [r4.at'.cell]; simp [Dk.cells, Gh.on]
  have c8 : w4.cell? ⟨B, 8, none⟩ = some (.int .i64 (trimS ks (settleS N S)).d.gl) := by rw [r4.at'.cell]; simp [Dk.cells, Gh.on]
  have c9 : w4.cell? ⟨B, 9, none⟩ = some (.bool (trimS ks (settleS N S)).d.lost) := by rw [r4.at'.cell]; simp [Dk.cells, Gh.on]
  have l5 := r4.at'.loose 5
  have l6 := r4.at'.loose 6
  have l7 := r4.at'.loose 7
  have l8 := r4.at'.loose 8
  have l9 := r4.at'.loose 9
  clear r4 f4 q4 htr k2 kf
  have HFIN : Hid (Did B (restartS n ks S) g w (((((w4.setCell ⟨B, 5, none⟩ (.bool false)).setCell ⟨B, 6, none⟩ (.int .i64 0)).setCell ⟨B, 7, none⟩ (.bool false)).setCell ⟨B, 8, none⟩ (.int .i64 0)).setCell ⟨B, 9, none⟩ (.bool false))) := by
    have ok := R4.out.at'.ok
    have o : (0 : Int) ≤ 9223372036854775807 := by decide
    have z : (0 : Int) ≤ 0 := by decide
    have h5 := R4.out.at'.set (y := { g4.on (trimS ks (settleS N S)).d with fs := false }) 5 (.bool false) ⟨ok.cap1, ok.cap2, ok.used1, ok.used2, ok.fl1, ok.fl2, ok.gl1, ok.gl2, ok.len⟩ (by simp [Dk.cells])
    have h6 := h5.set (y := { g4.on (trimS ks (settleS N S)).d with fs := false, fl := 0 }) 6 (.int .i64 0) ⟨ok.cap1, ok.cap2, ok.used1, ok.used2, z, o, ok.gl1, ok.gl2, ok.len⟩ (by simp [Dk.cells])
    have h7 := h6.set (y := { g4.on (trimS ks (settleS N S)).d with fs := false, fl := 0, gs := false }) 7 (.bool false) ⟨ok.cap1, ok.cap2, ok.used1, ok.used2, z, o, ok.gl1, ok.gl2, ok.len⟩ (by simp [Dk.cells])
    have h8 := h7.set (y := { g4.on (trimS ks (settleS N S)).d with fs := false, fl := 0, gs := false, gl := 0 }) 8 (.int .i64 0) ⟨ok.cap1, ok.cap2, ok.used1, ok.used2, z, o, z, o, ok.len⟩ (by simp [Dk.cells])
    have h9 := h8.set (y := g4.on (wakeS (trimS ks (settleS N S))).d) 9 (.bool false) ⟨ok.cap1, ok.cap2, ok.used1, ok.used2, z, o, z, o, ok.len⟩ (by simp [Dk.cells, Gh.on, wakeS])
    have ho : Only B w4 (((((w4.setCell ⟨B, 5, none⟩ (.bool false)).setCell ⟨B, 6, none⟩ (.int .i64 0)).setCell ⟨B, 7, none⟩ (.bool false)).setCell ⟨B, 8, none⟩ (.int .i64 0)).setCell ⟨B, 9, none⟩ (.bool false)) :=
      ((((Only.set B 5 w4 _).trans (Only.set B 6 _ _)).trans (Only.set B 7 _ _)).trans (Only.set B 8 _ _)).trans (Only.set B 9 _ _)
    rw [HR.out]
    exact Did.via F3.out HG3.out ⟨g4, R4.out.core h9 ho, HQ.out.1.trans (Fr.of_only ho (.inl rfl)), HQ.out.2⟩
  go_wp2_with fail
  go_end0
  exact ⟨rfl, HFIN.out⟩

theorem names_rep {w : World} {B : Nat} {S : St} {g : Gh} (h : Rep w B S g) (hst : S.steps ≤ 900) :
    Calls Try.prog 10 #[.pointer (some ⟨B, 0, none⟩)] w fun e w' => ∃ v, e = .returned v ∧ NewN w w' v (namesD S.Dn) := by
  have c2 : w.cell? ⟨B, 2, none⟩ = some (.map g.nm) := by rw [h.at'.cell]; simp [Dk.cells, Gh.on]
  have hs := sorted_any h.nm (by have := h.nn; omega)
  clear h hst
  go_enter Try.func10, Try.ntmps10
  go_wp2_with fail
  (with_reducible refine hs.mono ?_)
  rintro e w1 ⟨v, rfl, N⟩
  have HN := Lib.hid N
  clear hs N
  go_wp2_with fail
  go_ret
  exact ⟨_, rfl, HN.out⟩

/-- A disk just made. -/
def newD (cap : Int) : Dk := ⟨cap, 0, none, none, none, 0, 0, false, 0, false, 0, false⟩
def newSt (cap : Int) : St := ⟨newD cap, .map [], [], fun _ => ⟨[], 0⟩, 0, 0, 0⟩
def newGh : Gh := ⟨none, none, none, 0, [], fun _ => none, fun _ => none, 0, 0⟩
theorem newInv (cap : Int) : Inv (newSt cap) :=
  ⟨.nil OkD.empty, fun t i h => (by have := At.has h; cases this), fun c h => (by cases h), fun c h => (by cases h), List.Pairwise.nil, Nat.le_refl _, fun _ => Nat.le_refl _, fun _ => Nat.le_refl _, fun _ n h => (by cases h)⟩
theorem newRep {w : World} {B : Nat} {cap : Int} (h : DkAt w B (newGh.on (newD cap))) : Rep w B (newSt cap) newGh :=
  ⟨h, rfl, ⟨World.ownsRow_nil _ _ _ _, rfl, fun x hx => (by cases hx), fun x hx => (by cases hx)⟩, ⟨Nat.zero_le _, Nat.le_refl _⟩, .inl ⟨rfl, rfl⟩, .inl ⟨rfl, rfl⟩, Iff.rfl, fun h => absurd rfl h, fun _ => rfl, fun b i h => (by cases h), fun b b' i h => (by cases h), fun b b' i j r h => (by cases h), fun b i h => (by cases h), Nat.le_refl _, Nat.le_refl _⟩
theorem newFoot {B k : Nat} (h : Foot B newGh k) : k = B := by
  rcases h with e | e | e | e | ⟨i, e⟩ | ⟨b, i, e, _⟩
  · exact e
  all_goals cases e

theorem new_bad (cap : Int) (hc : cap < 0 ∨ 1048576 < cap) (w : World) : Calls Try.prog 7 #[.int .i64 cap] w fun e w' => e = .returned (.tuple #[.pointer none, .int .i64 1]) ∧ w = w' := by
  rcases hc with hc | hc
  · go_enter Try.func7, Try.ntmps7
    go_wp2_with fail
    go_ret2
    exact ⟨rfl, rfl⟩
  · have h0 : ¬ cap < 0 := by omega
    go_enter Try.func7, Try.ntmps7
    go_wp2_with fail
    go_ret2
    exact ⟨rfl, rfl⟩
theorem new_good (cap : Int) (h0 : 0 ≤ cap) (h1 : cap ≤ 1048576) (w : World) : Calls Try.prog 7 #[.int .i64 cap] w fun e w' => e = .returned (.tuple #[.pointer (some ⟨w.heap.size, 0, none⟩), .int .i64 0]) ∧ Rep w' w.heap.size (newSt cap) newGh ∧ Below w.heap.size w w' ∧ w'.heap.size = w.heap.size + 1 := by
  have h0' : ¬ cap < 0 := by omega
  have h1' : ¬ 1048576 < cap := by omega
  go_enter Try.func7, Try.ntmps7
  go_wp2_with fail
  go_ret2
  refine ⟨rfl, newRep ⟨?_, ?_⟩, (Below.refl _ _).alloc (Nat.le_refl _) _, by simp⟩
  · exact heap_alloc_new w _
  · exact ⟨by show (-9223372036854775808 : Int) ≤ cap; omega, by show cap ≤ (9223372036854775807 : Int); omega, by show (-9223372036854775808 : Int) ≤ 0; decide, by show (0 : Int) ≤ 9223372036854775807; decide, Int.le_refl _, by show (0 : Int) ≤ 9223372036854775807; decide, Int.le_refl _, by show (0 : Int) ≤ 9223372036854775807; decide, Nat.zero_le _⟩
end Go.Proofs.Ytoiggdcgfbjhpaa
