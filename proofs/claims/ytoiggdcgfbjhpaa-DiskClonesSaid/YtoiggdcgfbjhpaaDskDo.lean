/-
  What the law's Do does to a disk.
-/
import Derived.Test.YtoiggdcgfbjhpaaDskIv
namespace Go.Proofs.Ytoiggdcgfbjhpaa
open Go.ChangeShapes Go.WideShapes Go.ChangeAt Go.RowKit Go.Joins
set_option linter.unusedVariables false

theorem fuse_rep {w : World} {B : Nat} {S : St} {g : Gh} (n : Int) (h : Rep w B S g) (hn : n ≤ 9223372036854775807) : Calls Try.prog 23 #[.pointer (some ⟨B, 0, none⟩), .int .i64 n] w fun e w' => e = .returned (.int .i64 (fuseS n S).1) ∧ Did B (fuseS n S).2 g w w' := by
  refine (fuse_any n h.at' hn).mono ?_
  rintro e w' ⟨rfl, h1, h2⟩
  refine ⟨rfl, h.core_did ?_ h2⟩
  have e1 : (if (g.on S.d).lost = true then g.on S.d else if n < 0 then g.on S.d else { g.on S.d with fs := true, fl := n }) = g.on (if S.d.lost = true then S.d else if n < 0 then S.d else { S.d with fs := true, fl := n }) := by
    show (if S.d.lost = true then _ else _) = _
    split
    · rfl
    · split <;> rfl
  rw [e1] at h1
  exact h1
theorem falt_rep {w : World} {B : Nat} {S : St} {g : Gh} (n : Int) (h : Rep w B S g) (hn : n ≤ 9223372036854775807) : Calls Try.prog 24 #[.pointer (some ⟨B, 0, none⟩), .int .i64 n] w fun e w' => e = .returned (.int .i64 (faltS n S).1) ∧ Did B (faltS n S).2 g w w' := by
  refine (fault_any n h.at' hn).mono ?_
  rintro e w' ⟨rfl, h1, h2⟩
  refine ⟨rfl, h.core_did ?_ h2⟩
  have e1 : (if (g.on S.d).lost = true then g.on S.d else if n < 0 then g.on S.d else { g.on S.d with gs := true, gl := n }) = g.on (if S.d.lost = true then S.d else if n < 0 then S.d else { S.d with gs := true, gl := n }) := by
    show (if S.d.lost = true then _ else _) = _
    split
    · rfl
    · split <;> rfl
  rw [e1] at h1
  exact h1

/-- An act, as its six cells have it. -/
structure ActV where
  kind : Nat
  a : ByteArray
  b : ByteArray
  n : Int
  da : Option Addr
  dc : Nat
  data : List Nat
  ka : Option Addr
  kc : Nat
  ks : List Int
def ActV.vals (x : ActV) : List Value := [.int .u8 (x.kind : Int), .string x.a, .string x.b, .int .i64 x.n, .slice x.da x.data.length x.dc, .slice x.ka x.ks.length x.kc]
def ActV.act (x : ActV) : ActA := ⟨x.kind, x.a, x.b, x.n, x.data, x.ks⟩
/-- Its lists lie in w; its parts are no longer than a machine bears. -/
structure ActOk (w : World) (x : ActV) : Prop where
  kind : x.kind < 256
  a : x.a.size ≤ 140737488351232
  b : x.b.size ≤ 140737488351232
  n1 : -9223372036854775808 ≤ x.n
  n2 : x.n ≤ 9223372036854775807
  data : Sl w x.da x.dc x.data
  ks : Ks w x.ka x.kc x.ks
  dl : x.data.length ≤ 140737488351232
  kl : x.ks.length ≤ 140737488351232
theorem Sl.blk {w : World} {a : Option Addr} {cap : Nat} {l : List Nat} (h : Sl w a cap l) {p : Addr} (hp : a = Option.some p) (hl : l ≠ []) : p.block < w.heap.size := by
  obtain ⟨b, off, e, hb⟩ := h.some (k := 0) (List.length_pos_iff.2 hl)
  rw [hp] at e; cases e
  exact World.block_lt_of_cell? w _ (hb 0 (List.length_pos_iff.2 hl))
theorem Ks.blk {w : World} {a : Option Addr} {cap : Nat} {l : List Int} (h : Ks w a cap l) {p : Addr} (hp : a = Option.some p) (hl : l ≠ []) : p.block < w.heap.size := by
  rcases h.here with h0 | ⟨b, off, e, hb⟩
  · exact absurd h0 hl
  · rw [hp] at e; cases e
    exact World.block_lt_of_cell? w _ (hb 0 (List.length_pos_iff.2 hl))

set_option maxRecDepth 100000 in
set_option maxHeartbeats 4000000 in
theorem do_any {W w : World} {B : Nat} {S : St} {g : Gh} (h : Rep w B S g) (hI : Inv S) (hst : S.steps ≤ 900) (hbel : Below W.heap.size W w) (hfoot : ∀ k, Foot B g k → W.heap.size ≤ k) (x : ActV) (hx : ActOk W x) (htot : S.tot + x.data.length ≤ 1000000) :
    Calls Try.prog 8 #[.pointer (some ⟨B, 0, none⟩), .agg #[.int .u8 (x.kind : Int), .string x.a, .string x.b, .int .i64 x.n, .slice x.da x.data.length x.dc, .slice x.ka x.ks.length x.kc]] w fun e w' => e = .returned (.int .i64 (doS x.act S).1) ∧ Did B (doS x.act S).2 g w w' := by
  obtain ⟨kind, a, b, n, da, dc, data, ka, kc, ks⟩ := x
  obtain ⟨hk, ha, hb, hn1, hn2, hda, hks, hdl, hkl⟩ := hx
  simp only at hk ha hb hn1 hn2 hda hks hdl hkl htot ⊢
  have hba : Below w.heap.size w (w.alloc (.cells #[.int .u8 (kind : Int), .string a, .string b, .int .i64 n, .slice da data.length dc, .slice ka ks.length kc] 33)) := (Below.refl _ _).alloc (Nat.le_refl _) _
  have R := Lib.hid (h.later hba)
  have FA : Hid (Fr (Foot B g) w (w.alloc (.cells #[.int .u8 (kind : Int), .string a, .string b, .int .i64 n, .slice da data.length dc, .slice ka ks.length kc] 33))) := Fr.of_below hba
  have HD := Lib.hid (hda.below (hbel.trans (hba.mono hbel.size)))
  have HK : Hid (Ks (w.alloc (.cells #[.int .u8 (kind : Int), .string a, .string b, .int .i64 n, .slice da data.length dc, .slice ka ks.length kc] 33)) ka kc ks) := hks.fr (X := fun j => W.heap.size ≤ j) ((Fr.of_below hbel).trans ((Fr.of_below (X := fun j => W.heap.size ≤ j) hba))) (fun p hp hl e => by have := hks.blk hp hl; omega)
  have HFD : Hid (∀ p, da = some p → data ≠ [] → ¬ Foot B g p.block) := fun p hp hl hf => by have := hda.blk hp hl; have := hfoot _ hf; omega
  have HFK : Hid (∀ p, ka = some p → ks ≠ [] → ¬ Foot B g p.block) := fun p hp hl hf => by have := hks.blk hp hl; have := hfoot _ hf; omega
  have HI := Lib.hid hI
  have HST := Lib.hid hst
  have HTOT : Hid (∀ i, (S.F i).bytes.length + data.length ≤ 1000000) := fun i => by have := hI.bytes i; omega
  have HA : Hid (a.size ≤ maxLen ∧ b.size ≤ maxLen) := ⟨by unfold maxLen; omega, by unfold maxLen; omega⟩
  have HN := Lib.hid (And.intro hn1 hn2)
  have hdm : data.length ≤ dc := hda.len
  clear h hI hst hbel hfoot hda hks htot hba
  by_cases h0 : kind = 0
  · have t0 : ((kind : Int) == 0) = true := beq_iff_eq.2 (by omega)
    have HV : Hid (doS (ActV.act ⟨kind, a, b, n, da, dc, data, ka, kc, ks⟩) S = createS a S) := by show _ = _; rw [h0]; rfl
    have hc := create_any a R.out HA.out.1 HST.out
    clear h0
    go_enter Try.func8, Try.ntmps8
    go_wp2_with fail
    (with_reducible refine hc.mono ?_)
    rintro e w2 ⟨rfl, d2⟩
    have D2 := Lib.hid (Did.step FA.out d2)
    clear hc d2
    go_wp2_with fail
    go_ret
    rw [HV.out]
    exact ⟨rfl, D2.out⟩
  by_cases h1 : kind = 1
  · have t0 : ((kind : Int) == 0) = false := beq_eq_false_iff_ne.2 (by omega)
    have t1 : ((kind : Int) == 1) = true := beq_iff_eq.2 (by omega)
    have HV : Hid (doS (ActV.act ⟨kind, a, b, n, da, dc, data, ka, kc, ks⟩) S = appendS a data S) := by show _ = _; rw [h1]; rfl
    have hc := append_any a da dc data R.out HA.out.1 HD.out HFD.out HTOT.out
    clear h0 h1
    go_enter Try.func8, Try.ntmps8
    go_wp2_with fail
    (with_reducible refine hc.mono ?_)
    rintro e w2 ⟨rfl, d2⟩
    have D2 := Lib.hid (Did.step FA.out d2)
    clear hc d2
    go_wp2_with fail
    go_ret
    rw [HV.out]
    exact ⟨rfl, D2.out⟩
  by_cases h2 : kind = 2
  · have t0 : ((kind : Int) == 0) = false := beq_eq_false_iff_ne.2 (by omega)
    have t1 : ((kind : Int) == 1) = false := beq_eq_false_iff_ne.2 (by omega)
    have t2 : ((kind : Int) == 2) = true := beq_iff_eq.2 (by omega)
    have HV : Hid (doS (ActV.act ⟨kind, a, b, n, da, dc, data, ka, kc, ks⟩) S = renameS a b S) := by show _ = _; rw [h2]; rfl
    have hc := rename_any a b R.out HA.out.1 HA.out.2 HST.out
    clear h0 h1 h2
    go_enter Try.func8, Try.ntmps8
    go_wp2_with fail
    (with_reducible refine hc.mono ?_)
    rintro e w2 ⟨rfl, d2⟩
    have D2 := Lib.hid (Did.step FA.out d2)
    clear hc d2
    go_wp2_with fail
    go_ret
    rw [HV.out]
    exact ⟨rfl, D2.out⟩
  by_cases h3 : kind = 3
  · have t0 : ((kind : Int) == 0) = false := beq_eq_false_iff_ne.2 (by omega)
    have t1 : ((kind : Int) == 1) = false := beq_eq_false_iff_ne.2 (by omega)
    have t2 : ((kind : Int) == 2) = false := beq_eq_false_iff_ne.2 (by omega)
    have t3 : ((kind : Int) == 3) = true := beq_iff_eq.2 (by omega)
    have HV : Hid (doS (ActV.act ⟨kind, a, b, n, da, dc, data, ka, kc, ks⟩) S = removeS a S) := by show _ = _; rw [h3]; rfl
    have hc := remove_any a R.out HA.out.1 HST.out
    clear h0 h1 h2 h3
    go_enter Try.func8, Try.ntmps8
    go_wp2_with fail
    (with_reducible refine hc.mono ?_)
    rintro e w2 ⟨rfl, d2⟩
    have D2 := Lib.hid (Did.step FA.out d2)
    clear hc d2
    go_wp2_with fail
    go_ret
    rw [HV.out]
    exact ⟨rfl, D2.out⟩
  by_cases h4 : kind = 4
  · have t0 : ((kind : Int) == 0) = false := beq_eq_false_iff_ne.2 (by omega)
    have t1 : ((kind : Int) == 1) = false := beq_eq_false_iff_ne.2 (by omega)
    have t2 : ((kind : Int) == 2) = false := beq_eq_false_iff_ne.2 (by omega)
    have t3 : ((kind : Int) == 3) = false := beq_eq_false_iff_ne.2 (by omega)
    have t4 : ((kind : Int) == 4) = true := beq_iff_eq.2 (by omega)
    have HV : Hid (doS (ActV.act ⟨kind, a, b, n, da, dc, data, ka, kc, ks⟩) S = syncS a S) := by show _ = _; rw [h4]; rfl
    have hc := sync_any a R.out HA.out.1
    clear h0 h1 h2 h3 h4
    go_enter Try.func8, Try.ntmps8
    go_wp2_with fail
    (with_reducible refine hc.mono ?_)
    rintro e w2 ⟨rfl, d2⟩
    have D2 := Lib.hid (Did.step FA.out d2)
    clear hc d2
    go_wp2_with fail
    go_ret
    rw [HV.out]
    exact ⟨rfl, D2.out⟩
  by_cases h5 : kind = 5
  · have t0 : ((kind : Int) == 0) = false := beq_eq_false_iff_ne.2 (by omega)
    have t1 : ((kind : Int) == 1) = false := beq_eq_false_iff_ne.2 (by omega)
    have t2 : ((kind : Int) == 2) = false := beq_eq_false_iff_ne.2 (by omega)
    have t3 : ((kind : Int) == 3) = false := beq_eq_false_iff_ne.2 (by omega)
    have t4 : ((kind : Int) == 4) = false := beq_eq_false_iff_ne.2 (by omega)
    have t5 : ((kind : Int) == 5) = true := beq_iff_eq.2 (by omega)
    have HV : Hid (doS (ActV.act ⟨kind, a, b, n, da, dc, data, ka, kc, ks⟩) S = flushS S) := by show _ = _; rw [h5]; rfl
    have hc := flush_any R.out HST.out
    clear h0 h1 h2 h3 h4 h5
    go_enter Try.func8, Try.ntmps8
    go_wp2_with fail
    (with_reducible refine hc.mono ?_)
    rintro e w2 ⟨rfl, d2⟩
    have D2 := Lib.hid (Did.step FA.out d2)
    clear hc d2
    go_wp2_with fail
    go_ret
    rw [HV.out]
    exact ⟨rfl, D2.out⟩
  by_cases h6 : kind = 6
  · have t0 : ((kind : Int) == 0) = false := beq_eq_false_iff_ne.2 (by omega)
    have t1 : ((kind : Int) == 1) = false := beq_eq_false_iff_ne.2 (by omega)
    have t2 : ((kind : Int) == 2) = false := beq_eq_false_iff_ne.2 (by omega)
    have t3 : ((kind : Int) == 3) = false := beq_eq_false_iff_ne.2 (by omega)
    have t4 : ((kind : Int) == 4) = false := beq_eq_false_iff_ne.2 (by omega)
    have t5 : ((kind : Int) == 5) = false := beq_eq_false_iff_ne.2 (by omega)
    have t6 : ((kind : Int) == 6) = true := beq_iff_eq.2 (by omega)
    have HV : Hid (doS (ActV.act ⟨kind, a, b, n, da, dc, data, ka, kc, ks⟩) S = readS a S) := by show _ = _; rw [h6]; rfl
    have hc := read_any a R.out HA.out.1
    clear h0 h1 h2 h3 h4 h5 h6
    go_enter Try.func8, Try.ntmps8
    go_wp2_with fail
    (with_reducible refine hc.mono ?_)
    rintro e w2 ⟨v, w1, rfl, p1, p2, p3, p4⟩
    have D2 : Hid (Did B (readS a S).2 g w w2) := ⟨g, p1, FA.out.trans ((Fr.of_only p2 (.inl rfl)).later p3), fun _ h => .inl h⟩
    clear hc p1 p2 p3 p4
    go_wp2_with fail
    go_ret
    rw [HV.out]
    exact ⟨rfl, D2.out⟩
  by_cases h7 : kind = 7
  · have t0 : ((kind : Int) == 0) = false := beq_eq_false_iff_ne.2 (by omega)
    have t1 : ((kind : Int) == 1) = false := beq_eq_false_iff_ne.2 (by omega)
    have t2 : ((kind : Int) == 2) = false := beq_eq_false_iff_ne.2 (by omega)
    have t3 : ((kind : Int) == 3) = false := beq_eq_false_iff_ne.2 (by omega)
    have t4 : ((kind : Int) == 4) = false := beq_eq_false_iff_ne.2 (by omega)
    have t5 : ((kind : Int) == 5) = false := beq_eq_false_iff_ne.2 (by omega)
    have t6 : ((kind : Int) == 6) = false := beq_eq_false_iff_ne.2 (by omega)
    have t7 : ((kind : Int) == 7) = true := beq_iff_eq.2 (by omega)
    have HV : Hid (doS (ActV.act ⟨kind, a, b, n, da, dc, data, ka, kc, ks⟩) S = fuseS n S) := by show _ = _; rw [h7]; rfl
    have hc := fuse_rep n R.out HN.out.2
    clear h0 h1 h2 h3 h4 h5 h6 h7
    go_enter Try.func8, Try.ntmps8
    go_wp2_with fail
    (with_reducible refine hc.mono ?_)
    rintro e w2 ⟨rfl, d2⟩
    have D2 := Lib.hid (Did.step FA.out d2)
    clear hc d2
    go_wp2_with fail
    go_ret
    rw [HV.out]
    exact ⟨rfl, D2.out⟩
  by_cases h8 : kind = 8
  · have t0 : ((kind : Int) == 0) = false := beq_eq_false_iff_ne.2 (by omega)
    have t1 : ((kind : Int) == 1) = false := beq_eq_false_iff_ne.2 (by omega)
    have t2 : ((kind : Int) == 2) = false := beq_eq_false_iff_ne.2 (by omega)
    have t3 : ((kind : Int) == 3) = false := beq_eq_false_iff_ne.2 (by omega)
    have t4 : ((kind : Int) == 4) = false := beq_eq_false_iff_ne.2 (by omega)
    have t5 : ((kind : Int) == 5) = false := beq_eq_false_iff_ne.2 (by omega)
    have t6 : ((kind : Int) == 6) = false := beq_eq_false_iff_ne.2 (by omega)
    have t7 : ((kind : Int) == 7) = false := beq_eq_false_iff_ne.2 (by omega)
    have t8 : ((kind : Int) == 8) = true := beq_iff_eq.2 (by omega)
    have HV : Hid (doS (ActV.act ⟨kind, a, b, n, da, dc, data, ka, kc, ks⟩) S = faltS n S) := by show _ = _; rw [h8]; rfl
    have hc := falt_rep n R.out HN.out.2
    clear h0 h1 h2 h3 h4 h5 h6 h7 h8
    go_enter Try.func8, Try.ntmps8
    go_wp2_with fail
    (with_reducible refine hc.mono ?_)
    rintro e w2 ⟨rfl, d2⟩
    have D2 := Lib.hid (Did.step FA.out d2)
    clear hc d2
    go_wp2_with fail
    go_ret
    rw [HV.out]
    exact ⟨rfl, D2.out⟩
  have t0 : ((kind : Int) == 0) = false := beq_eq_false_iff_ne.2 (by omega)
  have t1 : ((kind : Int) == 1) = false := beq_eq_false_iff_ne.2 (by omega)
  have t2 : ((kind : Int) == 2) = false := beq_eq_false_iff_ne.2 (by omega)
  have t3 : ((kind : Int) == 3) = false := beq_eq_false_iff_ne.2 (by omega)
  have t4 : ((kind : Int) == 4) = false := beq_eq_false_iff_ne.2 (by omega)
  have t5 : ((kind : Int) == 5) = false := beq_eq_false_iff_ne.2 (by omega)
  have t6 : ((kind : Int) == 6) = false := beq_eq_false_iff_ne.2 (by omega)
  have t7 : ((kind : Int) == 7) = false := beq_eq_false_iff_ne.2 (by omega)
  have t8 : ((kind : Int) == 8) = false := beq_eq_false_iff_ne.2 (by omega)
  have HV : Hid (doS (ActV.act ⟨kind, a, b, n, da, dc, data, ka, kc, ks⟩) S = (0, restartS n ks S)) := by
    obtain ⟨m, rfl⟩ : ∃ m, kind = m + 9 := ⟨kind - 9, by omega⟩
    rfl
  have hc := restart_any n R.out HI.out HST.out HN.out.1 HN.out.2 ka kc ks HK.out HFK.out
  clear h0 h1 h2 h3 h4 h5 h6 h7 h8
  go_enter Try.func8, Try.ntmps8
  go_wp2_with fail
  (with_reducible refine hc.mono ?_)
  rintro e w2 ⟨rfl, d2⟩
  have D2 := Lib.hid (Did.step FA.out d2)
  clear hc d2
  go_wp2_with fail
  go_ret
  rw [HV.out]
  exact ⟨rfl, D2.out⟩
end Go.Proofs.Ytoiggdcgfbjhpaa
