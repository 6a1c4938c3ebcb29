/-
  Package packet's Join: what it is to gather, plainly; the set that is being gathered, in memory.
  Join answers alike of like packets.
  Package packet's firsts.
-/
import Derived.Test.YtfgaohilpbocbaaGreatDoorMm20
section
namespace Go.Proofs.YtfgaohilpbocbaaGreatDoor
open Go.ChangeShapes Go.WideShapes Go.ChangeAt Go.RowKit Go.Joins
set_option linter.unusedVariables false

inductive Got (F : List Pw) (M : Mp) (sl : Int) : Nat → St → Prop
  | zero : Got F M sl 0 ⟨sl, [], []⟩
  | next {k : Nat} {S : St} {a b : Nat} {f g : Pw} (h : Got F M sl k S) (ha : ((2, (k : Int)), a) ∈ M) (hb : ((3, (k : Int)), b) ∈ M) (hf : F[a]? = some f) (hg : F[b]? = some g) :
      Got F M sl (k + 1) ⟨sl, S.files ++ [f.p.file], S.slices ++ g.p.sums⟩
structure GotIn (F : List Pw) (sl : Int) (k : Nat) (S : St) : Prop where
  slice : S.slice = sl
  files : S.files.length = k
  few : k ≤ F.length
  most : S.slices.length ≤ 600 * k
  fok : ∀ x ∈ S.files, FilOk x
  sok : ∀ x ∈ S.slices, SmOk x
theorem Got.ids {F : List Pw} {M : Mp} {sl : Int} {name : List Nat} {k : Nat} {S : St} (hF : Fst F name F.length M) (h : Got F M sl k S) :
    ∃ l : List Nat, l.length = k ∧ l.Nodup ∧ ∀ x ∈ l, x < F.length ∧ ∃ j : Nat, j < k ∧ ((2, (j : Int)), x) ∈ M := by
  induction h with
  | zero => exact ⟨[], rfl, List.nodup_nil, fun x hx => (by cases hx)⟩
  | @next k S a b f g h ha hb hf hg ih =>
    obtain ⟨l, h1, h2, h3⟩ := ih
    have hal := (List.getElem?_eq_some_iff.1 hf).1
    refine ⟨l ++ [a], by simp [h1], ?_, fun x hx => ?_⟩
    · rw [List.nodup_append]
      refine ⟨h2, by simp, fun x hx y hy => ?_⟩
      simp only [List.mem_singleton] at hy
      subst hy
      rintro rfl
      obtain ⟨_, j, hj, hm⟩ := h3 x hx
      obtain ⟨f1, _, e1, _, p1⟩ := hF.one _ ha
      obtain ⟨f2, _, e2, _, p2⟩ := hF.one _ hm
      simp only at e1 e2 p1 p2
      rw [e1] at e2
      cases e2
      rw [p1] at p2
      have := congrArg Prod.snd p2
      simp only at this
      omega
    · rcases List.mem_append.1 hx with hx | hx
      · obtain ⟨q1, j, hj, hm⟩ := h3 x hx
        exact ⟨q1, j, by omega, hm⟩
      · simp only [List.mem_singleton] at hx
        subst hx
        exact ⟨hal, k, by omega, ha⟩
theorem Got.okIn {F : List Pw} {M : Mp} {sl : Int} {name : List Nat} {k : Nat} {S : St} (hF : Fst F name F.length M) (hok : ∀ f ∈ F, PkIn f.p) (hsm : ∀ f ∈ F, f.p.set = name → f.p.sums.length ≤ 600) (h : Got F M sl k S) : GotIn F sl k S := by
  obtain ⟨l, l1, l2, l3⟩ := h.ids hF
  have hfew : k ≤ F.length := by rw [← l1]; exact pigeon _ _ l2 fun x hx => (l3 x hx).1
  clear l1 l2 l3
  induction h with
  | zero => exact ⟨rfl, rfl, Nat.zero_le _, Nat.le_refl _, fun x hx => (by cases hx), fun x hx => (by cases hx)⟩
  | @next k S a b f g h ha hb hf hg ih =>
    obtain ⟨i1, i2, i3, i4, i5, i6⟩ := ih (by omega)
    have mf : f ∈ F := List.mem_of_getElem? hf
    have mg : g ∈ F := List.mem_of_getElem? hg
    obtain ⟨g', _, e1, s1, _⟩ := hF.one _ hb
    simp only at e1
    rw [hg] at e1
    cases e1
    have hgs := hsm g mg s1
    refine ⟨rfl, by simp [i2], hfew, ?_, fun x hx => ?_, fun x hx => ?_⟩
    · simp only [List.length_append]; omega
    · simp only [List.mem_append, List.mem_singleton] at hx
      rcases hx with hx | rfl
      · exact i5 x hx
      · exact (hok f mf).file
    · simp only [List.mem_append] at hx
      rcases hx with hx | hx
      · exact i6 x hx
      · exact (hok g mg).sums x hx
def sv3 (z : Int) (fv sv : Value) (j : Nat) : Value := if j = 0 then .int .i64 z else if j = 1 then fv else sv
def zSetA : Array Value := #[.int .i64 0, .slice none 0 0, .slice none 0 0]
structure JoinSt (wq wr : World) (S : St) (fv sv : Value) : Prop where
  box : Row wr wq.heap.size 30 3 3 (sv3 S.slice fv sv)
  fo : OwnF (wq.heap.size + 1) wr fv S.files
  so : OwnS (wq.heap.size + 1) wr sv S.slices
  below : Below wq.heap.size wq wr
theorem JoinSt.first (wq : World) (z : Int) : JoinSt wq (wq.alloc (.cells #[.int .i64 z, .slice none 0 0, .slice none 0 0] 30)) ⟨z, [], []⟩ (.slice none 0 0) (.slice none 0 0) := by
  have h : (wq.alloc (.cells (rowArr 3 (sv3 z (.slice none 0 0) (.slice none 0 0))) 30)).heap[wq.heap.size]? = some (.cells (rowArr 3 (sv3 z (.slice none 0 0) (.slice none 0 0))) 30 (0, 0)) := heap_alloc_last wq _
  exact ⟨Row.of_whole h, OwnF.nil _ _, OwnS.nil _ _, (Below.refl _ _).alloc (Nat.le_refl _) _⟩
theorem JoinSt.later {wq wr w' : World} {S : St} {fv sv : Value} (h : JoinSt wq wr S fv sv) (k : Below wr.heap.size wr w') : JoinSt wq w' S fv sv :=
  ⟨h.box.below k h.box.lt, h.fo.kept k, h.so.kept k, h.below.trans (k.mono h.below.size)⟩
theorem JoinSt.file {wq w1 w2 : World} {S : St} {fv sv v2 : Value} {f : Fil} (h : JoinSt wq w1 S fv sv) (o2 : OwnF (wq.heap.size + 1) w2 v2 (S.files ++ [f])) (k : Fr (fun b => fv.ownBlock = some b) w1 w2) :
    Row w2 wq.heap.size 30 3 3 (sv3 S.slice fv sv) ∧ JoinSt wq (w2.setCell ⟨wq.heap.size, 1, none⟩ v2) ⟨S.slice, S.files ++ [f], S.slices⟩ v2 sv := by
  obtain ⟨cs, hc, h1, h2⟩ := h.box
  have hne : ¬ fv.ownBlock = some wq.heap.size := fun e => by have := (h.fo.at e).1; omega
  have hb2 : Row w2 wq.heap.size 30 3 3 (sv3 S.slice fv sv) := ⟨cs, (k.block _ (Array.getElem?_eq_some_iff.1 hc).1 hne).trans hc, h1, h2⟩
  have hs2 : OwnS (wq.heap.size + 1) w2 sv S.slices := h.so.fr k fun b hb hX => own_apart h.fo h.so hX hb
  have hfr : Fr (fun j => j = wq.heap.size) w2 (w2.setCell ⟨wq.heap.size, 1, none⟩ v2) := Fr.set (X := fun j => j = wq.heap.size) (p := ⟨wq.heap.size, 1, none⟩) (Fr.refl _ w2) (fun _ => rfl) _
  have hB2 : Below wq.heap.size wq w2 := h.below.trans (k.below h.below.size fun j hj hX => by have := (h.fo.at hX).1; omega)
  refine ⟨hb2, ⟨(hb2.upd 1 (by omega) v2).mono (Nat.le_refl _) fun j hj => ?_, o2.fr hfr fun b hb e => ?_, hs2.fr hfr fun b hb e => ?_, below_cellB hB2 hB2.size (Nat.le_refl _) _ _⟩⟩
  · unfold sv3
    have : j = 0 ∨ j = 1 ∨ j = 2 := by omega
    rcases this with rfl | rfl | rfl <;> rfl
  · have := (o2.at hb).1; omega
  · have := (hs2.at hb).1; omega
theorem JoinSt.sums {wq w1 w2 : World} {S : St} {fv sv v2 : Value} {G : List Sm} (h : JoinSt wq w1 S fv sv) (o2 : OwnS (wq.heap.size + 1) w2 v2 (S.slices ++ G)) (k : Fr (fun b => sv.ownBlock = some b) w1 w2) :
    Row w2 wq.heap.size 30 3 3 (sv3 S.slice fv sv) ∧ JoinSt wq (w2.setCell ⟨wq.heap.size, 2, none⟩ v2) ⟨S.slice, S.files, S.slices ++ G⟩ fv v2 := by
  obtain ⟨cs, hc, h1, h2⟩ := h.box
  have hne : ¬ sv.ownBlock = some wq.heap.size := fun e => by have := (h.so.at e).1; omega
  have hb2 : Row w2 wq.heap.size 30 3 3 (sv3 S.slice fv sv) := ⟨cs, (k.block _ (Array.getElem?_eq_some_iff.1 hc).1 hne).trans hc, h1, h2⟩
  have hs2 : OwnF (wq.heap.size + 1) w2 fv S.files := h.fo.fr k fun b hb hX => own_apart h.fo h.so hb hX
  have hfr : Fr (fun j => j = wq.heap.size) w2 (w2.setCell ⟨wq.heap.size, 2, none⟩ v2) := Fr.set (X := fun j => j = wq.heap.size) (p := ⟨wq.heap.size, 2, none⟩) (Fr.refl _ w2) (fun _ => rfl) _
  have hB2 : Below wq.heap.size wq w2 := h.below.trans (k.below h.below.size fun j hj hX => by have := (h.so.at hX).1; omega)
  refine ⟨hb2, ⟨(hb2.upd 2 (by omega) v2).mono (Nat.le_refl _) fun j hj => ?_, hs2.fr hfr fun b hb e => ?_, o2.fr hfr fun b hb e => ?_, below_cellB hB2 hB2.size (Nat.le_refl _) _ _⟩⟩
  · unfold sv3
    have : j = 0 ∨ j = 1 ∨ j = 2 := by omega
    rcases this with rfl | rfl | rfl <;> rfl
  · have := (hs2.at hb).1; omega
  · have := (o2.at hb).1; omega

def Lacks (F : List Pw) (M : Mp) : Prop := (∀ x ∈ M, x.1 ≠ (1, 0)) ∨ ∃ m0 f0, ∃ k : Nat, ((1, 0), m0) ∈ M ∧ F[m0]? = some f0 ∧ (k : Int) < f0.p.files ∧ ((∀ x ∈ M, x.1 ≠ (2, (k : Int))) ∨ (∀ x ∈ M, x.1 ≠ (3, (k : Int))))
def JoinPost (F : List Pw) (name : List Nat) (w : World) (e : Ending) (w' : World) : Prop := Below w.heap.size w w' ∧ ∃ M, Fst F name F.length M ∧
  ((e = .returned (.tuple #[.agg zSetA, .int .i64 7]) ∧ Lacks F M) ∨
   (∃ m0 f0 S, ((1, 0), m0) ∈ M ∧ F[m0]? = some f0 ∧ Got F M f0.p.slice f0.p.files.toNat S ∧
     ((e = .returned (.tuple #[.agg zSetA, .int .i64 2]) ∧ ¬ (f0.p.slices = (S.slices.length : Int) ∧ FormedP S ∧ nameS S = name)) ∨
      ((f0.p.slices = (S.slices.length : Int) ∧ FormedP S ∧ nameS S = name) ∧ ∃ fa fc sa sc, e = .returned (.tuple #[.agg (rowArr 3 (setV S fa fc sa sc)), .int .i64 0]) ∧ SetAt w' S fa fc sa sc ∧ (sa = none → sc = 0)))))
end Go.Proofs.YtfgaohilpbocbaaGreatDoor
end

section
namespace Go.Proofs.YtfgaohilpbocbaaGreatDoor
open Go.ChangeShapes Go.WideShapes Go.ChangeAt Go.RowKit Go.Joins
set_option linter.unusedVariables false

theorem pk_at {F F' : List Pw} (hp : F.map (fun f => f.p) = F'.map (fun f => f.p)) {i : Nat} {f : Pw} (h : F[i]? = some f) : ∃ f', F'[i]? = some f' ∧ f'.p = f.p := by
  have h1 := congrArg (fun l => l[i]?) hp
  simp only [List.getElem?_map, h, Option.map_some] at h1
  cases h2 : F'[i]? with
  | none => rw [h2] at h1; cases h1
  | some f' => rw [h2] at h1; exact ⟨f', rfl, (Option.some.inj h1).symm⟩
theorem Fst.key {F : List Pw} {name : List Nat} {k : Nat} {M : Mp} (h : Fst F name k M) {t : Int × Int} {v v' : Nat} (h1 : (t, v) ∈ M) (h2 : (t, v') ∈ M) : v = v' := by
  obtain ⟨f, _, e1, s1, p1⟩ := h.one _ h1
  obtain ⟨f', _, e2, s2, p2⟩ := h.one _ h2
  rcases Nat.lt_trichotomy v v' with hlt | rfl | hlt
  · exact absurd p1 (h.first _ h2 v f hlt e1 s1)
  · rfl
  · exact absurd p2 (h.first _ h1 v' f' hlt e2 s2)
theorem Fst.same {F F' : List Pw} (hp : F.map (fun f => f.p) = F'.map (fun f => f.p)) {name : List Nat} {M M' : Mp} (h : Fst F name F.length M) (h' : Fst F' name F'.length M') {t : Int × Int} {v : Nat} (hv : (t, v) ∈ M) : (t, v) ∈ M' := by
  obtain ⟨f, hl, e1, s1, p1⟩ := h.one _ hv
  obtain ⟨f', e2, p2⟩ := pk_at hp e1
  have hl' := (List.getElem?_eq_some_iff.1 e2).1
  obtain ⟨v', hv'⟩ := h'.all v f' hl' e2 (by rw [p2]; exact s1)
  rw [p2, p1] at hv'
  obtain ⟨g', _, e3, s3, p3⟩ := h'.one _ hv'
  rcases Nat.lt_trichotomy v v' with hlt | rfl | hlt
  · exact absurd (by rw [p2, p1]) (h'.first _ hv' v f' hlt e2 (by rw [p2]; exact s1))
  · exact hv'
  · obtain ⟨g, e4, p4⟩ := pk_at hp.symm e3
    exact absurd (by rw [p4, p3]) (h.first _ hv v' g hlt e4 (by rw [p4]; exact s3))
theorem Got.hasJ {F : List Pw} {M : Mp} {sl : Int} {k : Nat} {S : St} (h : Got F M sl k S) : ∀ j, j < k → (∃ a, ((2, (j : Int)), a) ∈ M) ∧ ∃ b, ((3, (j : Int)), b) ∈ M := by
  induction h with
  | zero => intro j hj; omega
  | @next k S a b f g h ha hb hf hg ih =>
    intro j hj
    by_cases e : j = k
    · subst e; exact ⟨⟨a, ha⟩, ⟨b, hb⟩⟩
    · exact ih j (by omega)
theorem Got.same {F F' : List Pw} (hp : F.map (fun f => f.p) = F'.map (fun f => f.p)) {name : List Nat} {M M' : Mp} (hF : Fst F name F.length M) (hF' : Fst F' name F'.length M') {sl : Int} {k : Nat} {S : St} (h : Got F M sl k S) : ∀ {S' : St}, Got F' M' sl k S' → S = S' := by
  induction h with
  | zero => intro S' h'; cases h'; rfl
  | @next k S a b f g h ha hb hf hg ih =>
    intro S' h'
    cases h' with
    | @next _ T a' b' f' g' h2 ha' hb' hf' hg' =>
      obtain rfl := ih h2
      obtain rfl := hF'.key (hF.same hp hF' ha) ha'
      obtain rfl := hF'.key (hF.same hp hF' hb) hb'
      obtain ⟨f2, e1, p1⟩ := pk_at hp hf
      obtain ⟨g2, e2, p2⟩ := pk_at hp hg
      rw [e1] at hf'
      rw [e2] at hg'
      cases hf'
      cases hg'
      rw [p1, p2]
/-- A set that is gathered of packets, of a name. -/
def Gets (F : List Pw) (name : List Nat) (S : St) : Prop := ∃ M m0 f0, Fst F name F.length M ∧ ((1, 0), m0) ∈ M ∧ F[m0]? = some f0 ∧ Got F M f0.p.slice f0.p.files.toNat S ∧ f0.p.slices = (S.slices.length : Int) ∧ FormedP S ∧ nameS S = name
theorem JoinPost.gets {F : List Pw} {name : List Nat} {w w' : World} {e : Ending} (h : JoinPost F name w e w') (he : ∀ z, e ≠ .returned (.tuple #[z, .int .i64 7]) ∧ e ≠ .returned (.tuple #[z, .int .i64 2])) :
    ∃ S, Gets F name S ∧ ∃ fa fc sa sc, e = .returned (.tuple #[.agg (rowArr 3 (setV S fa fc sa sc)), .int .i64 0]) ∧ SetAt w' S fa fc sa sc ∧ (sa = none → sc = 0) := by
  obtain ⟨_, M, hM, ⟨h1, _⟩ | ⟨m0, f0, S, h1, h2, h3, ⟨h4, _⟩ | ⟨⟨h4, h5, h6⟩, h7⟩⟩⟩ := h
  · exact absurd h1 (he _).1
  · exact absurd h4 (he _).2
  · exact ⟨S, ⟨M, m0, f0, hM, h1, h2, h3, h4, h5, h6⟩, h7⟩
theorem Gets.join {F F' : List Pw} (hp : F.map (fun f => f.p) = F'.map (fun f => f.p)) {name : List Nat} {S : St} (h : Gets F name S) {w w' : World} {e : Ending} (hj : JoinPost F' name w e w') :
    Below w.heap.size w w' ∧ ∃ fa fc sa sc, e = .returned (.tuple #[.agg (rowArr 3 (setV S fa fc sa sc)), .int .i64 0]) ∧ SetAt w' S fa fc sa sc ∧ (sa = none → sc = 0) := by
  obtain ⟨M, m0, f0, hM, k1, k2, k3, k4, k5, k6⟩ := h
  obtain ⟨hb, M', hM', hc⟩ := hj
  refine ⟨hb, ?_⟩
  have hm0 := hM.same hp hM' k1
  obtain ⟨f1, e1, p1⟩ := pk_at hp k2
  rcases hc with ⟨_, hl⟩ | ⟨m2, f2, T, h1, h2, h3, h4⟩
  · rcases hl with hl | ⟨m2, f2, k, h1, h2, hk, hl⟩
    · exact absurd rfl (hl _ hm0)
    · obtain rfl := hM'.key hm0 h1
      rw [e1] at h2
      cases h2
      rw [p1] at hk
      obtain ⟨⟨a, ha⟩, ⟨b, hb⟩⟩ := k3.hasJ k (by omega)
      rcases hl with hl | hl
      · exact absurd rfl (hl _ (hM.same hp hM' ha))
      · exact absurd rfl (hl _ (hM.same hp hM' hb))
  · obtain rfl := hM'.key hm0 h1
    rw [e1] at h2
    cases h2
    rw [p1] at h3 h4
    obtain rfl := k3.same hp hM hM' h3
    rcases h4 with ⟨_, h4⟩ | ⟨_, h4⟩
    · exact absurd ⟨k4, k5, k6⟩ h4
    · exact h4
end Go.Proofs.YtfgaohilpbocbaaGreatDoor
end

section
namespace Go.Proofs.YtfgaohilpbocbaaGreatDoor
open Go.ChangeShapes Go.WideShapes Go.ChangeAt Go.RowKit Go.Joins
set_option linter.unusedVariables false

set_option maxRecDepth 1000000 in
set_option maxHeartbeats 16000000 in
theorem firsts_any (pa : Option Addr) (pc : Nat) (F : List Pw) (name : List Nat) (w : World) (hs : PkSl w pa pc F) (h8 : name.length = 8) (hb8 : IsByte name) :
    Calls Tryz.prog 46 #[.slice pa F.length pc, .agg (rowArr 8 (vOf name))] w fun e w' => ∃ mb M, e = .returned (.map (some mb)) ∧ MpAt w' mb M ∧ Fst F name F.length M ∧ w.heap.size ≤ mb ∧ Below w.heap.size w w' := by
  have mixed : Tryz.prog.follows .mixedOrders = true := by kernel_rfl
  have hlm := hs.lt
  have hmm := @run_makeMap Tryz.prog
  obtain ⟨NA, hNA⟩ : ∃ NA, NA = rowArr 8 (vOf name) := ⟨_, rfl⟩
  have VN : Hid (rowArr 8 (vOf name) = NA) := hNA.symm
  have HNA := Lib.hid hNA
  rw [← hNA]
  have hb0 : Below w.heap.size w (w.alloc (.cells NA 64)) := (Below.refl _ _).alloc (Nat.le_refl _) _
  have hb1 : Below w.heap.size w ((w.alloc (.cells NA 64)).alloc (.map #[] 0)) := hb0.alloc hb0.size _
  have HB1 := Lib.hid hb1
  have hz0 : (w.alloc (.cells NA 64)).heap[w.heap.size]? = some (.cells NA 64 (0, 0)) := heap_alloc_last w _
  have hs1 : (w.alloc (.cells NA 64)).heap.size = w.heap.size + 1 := by simp
  have HZ1 : Hid (((w.alloc (.cells NA 64)).alloc (.map #[] 0)).heap[w.heap.size]? = some (.cells NA 64 (0, 0))) := by
    have h2 : Below (w.alloc (.cells NA 64)).heap.size (w.alloc (.cells NA 64)) ((w.alloc (.cells NA 64)).alloc (.map #[] 0)) := (Below.refl _ _).alloc (Nat.le_refl _) _
    exact (h2.block _ (Array.getElem?_eq_some_iff.1 hz0).1).trans hz0
  have HM1 : Hid (MpAt ((w.alloc (.cells NA 64)).alloc (.map #[] 0)) (w.heap.size + 1) []) := by
    rw [← hs1]; exact MpAt.new _
  have HS := Lib.hid hs
  have H8 := Lib.hid h8
  have HB8 := Lib.hid hb8
  clear hs h8 hb8 hNA hb0 hb1 hz0
  go_enter Tryz.func46, Tryz.ntmps46
  go_upto_region 2 with fail
  change Code.wp _ _ _ _ ((w.alloc (.cells NA 64)).alloc (.map #[] 0))
  obtain ⟨B, hB⟩ : ∃ B, B = w.heap.size := ⟨_, rfl⟩
  have hwB : w.heap.size ≤ B := by omega
  rw [← hB] at HZ1 HM1
  rw [← hB]
  generalize (w.alloc (.cells NA 64)).alloc (.map #[] 0) = w1 at *
  clear hB hs1 hmm
  have HF0 : Hid (Fst F name 0 []) := Fst.zero F name
  go_wp2_with fail
  go_loopw [14] (fun i wr => ∃ (k : Nat) (M : Mp), k ≤ F.length ∧ i = .int .i64 k ∧ Hid (Fst F name k M) ∧ Hid (MpAt wr (B + 1) M) ∧ Hid (wr.heap[B]? = some (.cells NA 64 (0, 0))) ∧ Hid (Below w.heap.size w wr)) (fun i _ => F.length - (intOf i).toNat)
  case atStart => exact ⟨0, [], by omega, rfl, HF0, HM1, HZ1, HB1⟩
  case round =>
    obtain ⟨k, M, hk, rfl, HF, HM, HZ, HB⟩ := hrel
    clear HF0 HM1 HZ1 HB1
    by_cases hlt : k < F.length
    · have hPk := (HS.out.below HB.out)
      obtain ⟨pb, off, rfl, hbl, hx⟩ := pks_one hPk hlt
      have hpk1 := HS.out.pks _ (List.getElem_mem hlt)
      have hfk : F[k]? = some F[k] := List.getElem?_eq_getElem hlt
      obtain ⟨f, hf⟩ : ∃ f, f = F[k] := ⟨_, rfl⟩
      rw [← hf] at hx hpk1 hfk
      have HFK := Lib.hid hfk
      have HXC := Lib.hid hx
      have HPK1 := Lib.hid hpk1.okk
      obtain ⟨AQ, hAQ⟩ : ∃ AQ, AQ = rowArr 51 (pwV f) := ⟨_, rfl⟩
      have VA : Hid (rowArr 51 (pwV f) = AQ) := hAQ.symm
      have HAS : Hid (AQ.size = 51) := by show _ = _; rw [hAQ, rowArr_size]
      have HA1 : Hid (AQ.all (·.oneCell') = true) := by show _ = _; rw [hAQ]; exact oneCell_pk _ _ _ _ _
      have HALL : Hid (∀ c : Array Value, (wr.alloc (.cells c 100)).heap[wr.heap.size]? = some (.cells c 100 (0, 0))) := fun c => heap_alloc_last wr _
      have HALB : Hid (∀ c : Array Value, Below wr.heap.size wr (wr.alloc (.cells c 100))) := fun c => (Below.refl _ _).alloc (Nat.le_refl _) _
      clear hx hpk1 hfk hf hAQ hPk
      go_upto_region 5 with (first
        | (refine wpList_load_v (by rfl) 100 _ rfl pb (off + k * 51) 51 _ AQ VA.out rfl _ HXC.out Tryz.underlying100 rfl (by kernel_rfl) ?_)
        | (refine wpList_store_arr rfl 100 _ _ rfl wr.heap.size AQ rfl rfl 100 _ (HALL.out _) (by rw [HAS.out]; kernel_rfl) (by rw [HAS.out]; rfl) HA1.out ?_; intro w7 HC7 hf7; have HB67 : Hid (Below wr.heap.size wr w7) := (HALB.out _).trans (hf7.out.below (HALB.out _).size (fun k hk e => by omega)); clear hf7 HALL HALB))
      have HM7 : Hid (MpAt w7 (B + 1) M) := HM.out.fr (X := fun _ => False) (Fr.of_below HB67.out) (fun e => e)
      have HZ7 : Hid (w7.heap[B]? = some (.cells NA 64 (0, 0))) := (HB67.out.block B (Array.getElem?_eq_some_iff.1 HZ.out).1).trans HZ.out
      have HB7 : Hid (Below w.heap.size w w7) := HB.out.trans (HB67.out.mono HB.out.size)
      obtain ⟨g, hg⟩ : ∃ g, g = wr.heap.size := ⟨_, rfl⟩
      rw [← hg] at HC7
      rw [← hg]
      clear hg HB67 HB HZ HM HXC
      have hcg : ∀ j, j < 51 → w7.cell? ⟨g, j, none⟩ = some (pwV f j) := fun j hj => by
        rw [cell_of_block HC7.out, ← VA.out]
        simp [rowArr, hj]
      have HCG := Lib.hid hcg
      have HC8 : Hid (∀ j, j < 8 → w7.cell? ⟨g, 0 + j, none⟩ = some (vOf f.p.set j)) := fun j hj => by
        rw [Nat.zero_add, hcg j (by omega)]
        unfold pwV
        rw [pkV_set _ _ _ _ _ hj]
      have HCN : Hid (∀ j, j < 8 → w7.cell? ⟨B, 0 + j, none⟩ = some (vOf name j)) := fun j hj => by
        rw [cell_of_block HZ7.out, Nat.zero_add, HNA.out]
        simp [rowArr, hj]
      obtain ⟨SA, hSA⟩ : ∃ SA, SA = rowArr 8 (vOf f.p.set) := ⟨_, rfl⟩
      have VS : Hid (rowArr 8 (vOf f.p.set) = SA) := hSA.symm
      have nn : ∀ w, (binOp .neq 64 (.agg SA) (.agg NA)).run Tryz.prog w = .ok (.bool (!decide (f.p.set = name))) w := fun w => by
        rw [run_neq_struct, hSA, HNA.out, eq_arr Tryz.underlying64 HPK1.out.setb HB8.out HPK1.out.set8 H8.out 9998 w]
        rfl
      clear hcg hSA
      by_cases hset : f.p.set = name
      case' neg =>
        have d : decide (f.p.set = name) = false := decide_eq_false hset
        have HF1 := Lib.hid (HF.out.skip HFK.out hset)
        clear hset
        go_wp2_with (first
          | (refine wpList_load_v (by rfl) 64 _ rfl g 0 8 _ SA VS.out rfl _ HC8.out Tryz.underlying64 rfl (by kernel_rfl) ?_)
          | (refine wpList_load_v (by rfl) 64 _ rfl B 0 8 _ NA VN.out rfl _ HCN.out Tryz.underlying64 rfl (by kernel_rfl) ?_))
        go_roundw
        case rel => exact ⟨k + 1, M, by omega, by go_num, HF1, HM7, HZ7, HB7⟩
        case measure => simp [intOf]; omega
      have d : decide (f.p.set = name) = true := decide_eq_true hset
      have HSET := Lib.hid hset
      clear hset
      have c8 := HCG.out 8 (by omega)
      have c12 := HCG.out 12 (by omega)
      have e8 : pwV f 8 = .int .i64 f.p.kind := rfl
      have e12 : pwV f 12 = .int .i64 f.p.index := rfl
      rw [e8] at c8
      rw [e12] at c12
      go_upto_region 7 with (first
          | (refine wpList_load_v (by rfl) 64 _ rfl g 0 8 _ SA VS.out rfl _ HC8.out Tryz.underlying64 rfl (by kernel_rfl) ?_)
          | (refine wpList_load_v (by rfl) 64 _ rfl B 0 8 _ NA VN.out rfl _ HCN.out Tryz.underlying64 rfl (by kernel_rfl) ?_))
      have HC9 : Hid ((w7.alloc (.cells #[.int .i64 f.p.kind, .int .i64 f.p.index] 121)).heap[w7.heap.size]? = some (.cells #[.int .i64 f.p.kind, .int .i64 f.p.index] 121 (0, 0))) := heap_alloc_last w7 _
      have HB78 : Hid (Below w7.heap.size w7 (w7.alloc (.cells #[.int .i64 f.p.kind, .int .i64 f.p.index] 121))) := (Below.refl _ _).alloc (Nat.le_refl _) _
      generalize w7.alloc (.cells #[.int .i64 f.p.kind, .int .i64 f.p.index] 121) = w8 at *
      have HM8 : Hid (MpAt w8 (B + 1) M) := HM7.out.fr (X := fun _ => False) (Fr.of_below HB78.out) (fun e => e)
      have HZ8 : Hid (w8.heap[B]? = some (.cells NA 64 (0, 0))) := (HB78.out.block B (Array.getElem?_eq_some_iff.1 HZ7.out).1).trans HZ7.out
      have HBw8 : Hid (Below w.heap.size w w8) := HB7.out.trans (HB78.out.mono HB7.out.size)
      have k8 : w8.cell? ⟨g, 8, none⟩ = some (.int .i64 f.p.kind) := (HB78.out.cell (p := ⟨g, 8, none⟩) (World.block_lt_of_cell? w7 _ c8)).trans c8
      have hb7 : B + 1 < w7.heap.size := HM7.out.lt
      obtain ⟨h, hh⟩ : ∃ h, h = w7.heap.size := ⟨_, rfl⟩
      rw [← hh] at HC9 hb7
      rw [← hh]
      have hwh : w.heap.size ≤ h := by omega
      have hr8 : Row w8 h 121 2 2 (kvV (f.p.kind, f.p.index)) := Row.of_whole HC9.out
      have HR8 := Lib.hid hr8
      clear c8 c12 e8 e12 HC8 HCN HCG HC7 HM7 HZ7 HB7 HB78 nn d hh VS VN VA HC9 hr8
      by_cases hk1 : f.p.kind = 1
      case' pos =>
        have d1 : (f.p.kind == 1) = true := beq_iff_eq.2 hk1
        have p1 := HR8.out.cell 1 (by omega)
        have l1 := HR8.out.loose 1
        have HPE : Hid (partOf f.p = (f.p.kind, 0)) := by show _ = _; unfold partOf; rw [if_pos hk1]
        rw [hk1] at k8
        clear hk1
        go_upto_region 9 with fail
        have HR9 : Hid (Row (w8.setCell ⟨h, 1, none⟩ (.int .i64 0)) h 121 2 2 (kvV (partOf f.p))) := (HR8.out.upd 1 (by omega) _).mono (Nat.le_refl _) (fun j hj => by
          rw [HPE.out]
          unfold kvV
          have : j = 0 ∨ j = 1 := by omega
          rcases this with rfl | rfl <;> rfl)
        have hfr : Fr (fun j => j = h) w8 (w8.setCell ⟨h, 1, none⟩ (.int .i64 0)) := Fr.set (X := fun j => j = h) (p := ⟨h, 1, none⟩) (Fr.refl _ w8) (fun _ => rfl) _
        have HM9 : Hid (MpAt (w8.setCell ⟨h, 1, none⟩ (.int .i64 0)) (B + 1) M) := HM8.out.fr hfr (by omega)
        have HZ9 : Hid ((w8.setCell ⟨h, 1, none⟩ (.int .i64 0)).heap[B]? = some (.cells NA 64 (0, 0))) := (hfr.block B (Array.getElem?_eq_some_iff.1 HZ8.out).1 (by omega)).trans HZ8.out
        have HB9 : Hid (Below w.heap.size w (w8.setCell ⟨h, 1, none⟩ (.int .i64 0))) := below_cellB HBw8.out HBw8.out.size hwh _ _
        clear p1 l1 d1 k8 hfr
        generalize w8.setCell ⟨h, 1, none⟩ (.int .i64 0) = w9 at *
      case' neg =>
        have d1 : (f.p.kind == 1) = false := beq_eq_false_iff_ne.2 hk1
        have HPE : Hid (partOf f.p = (f.p.kind, f.p.index)) := by show _ = _; unfold partOf; rw [if_neg hk1]
        clear hk1
        go_upto_region 9 with fail
        have HR9 : Hid (Row w8 h 121 2 2 (kvV (partOf f.p))) := by show Row _ _ _ _ _ _; rw [HPE.out]; exact HR8.out
        have HM9 := HM8
        have HZ9 := HZ8
        have HB9 := HBw8
        clear d1 k8 HR8 HM8 HZ8 HBw8
        generalize w8 = w9 at *
      all_goals
        have hk := part_rng HPK1.out
        obtain ⟨KA, hKA⟩ : ∃ KA, KA = rowArr 2 (kvV (partOf f.p)) := ⟨_, rfl⟩
        have VK : Hid (rowArr 2 (kvV (partOf f.p)) = KA) := hKA.symm
        have hkv : keyV (partOf f.p) = .agg KA := by rw [keyV_row, ← hKA]
        have HCK : Hid (∀ j, j < 2 → w9.cell? ⟨h, 0 + j, none⟩ = some (kvV (partOf f.p) j)) := fun j hj => by rw [Nat.zero_add]; exact HR9.out.cell j hj
        have u85 := Tryz.underlying121
        clear hKA
        rcases HM9.out.look hk with ⟨v, hv, hlk⟩ | ⟨hno, hlk⟩
        · rw [hkv] at hlk
          have HLK := Lib.hid hlk
          have HF1 := Lib.hid (HF.out.had HFK.out hv)
          clear hlk hv hkv hk
          go_wp2_with (first
            | (refine wpList_load_v (by rfl) 121 _ rfl h 0 2 _ KA VK.out rfl _ HCK.out Tryz.underlying121 rfl (by kernel_rfl) ?_)
            | (refine wpList_look rfl 117 _ _ true rfl (.map (some (B + 1))) (.agg KA) _ rfl rfl HLK.out ?_))
          go_roundw
          case rel => exact ⟨k + 1, M, by omega, by go_num, HF1, HM9, HZ9, HB9⟩
          case measure => simp [intOf]; omega
        · rw [hkv] at hlk
          obtain ⟨w10, hup, hm10, hf10⟩ := HM9.out.add hk hno k
          rw [hkv] at hup
          have HLK := Lib.hid hlk
          have HUP := Lib.hid hup
          have HF1 := Lib.hid (HF.out.add HFK.out HSET.out hno)
          have HM10 := Lib.hid hm10
          have HZ10 : Hid (w10.heap[B]? = some (.cells NA 64 (0, 0))) := (hf10.block B (Array.getElem?_eq_some_iff.1 HZ9.out).1 (by omega)).trans HZ9.out
          have HB10 : Hid (Below w.heap.size w w10) := HB9.out.trans (hf10.below HB9.out.size (fun j hj e => by omega))
          clear hlk hup hno hkv hk hm10 hf10
          go_wp2_with (first
            | (refine wpList_load_v (by rfl) 121 _ rfl h 0 2 _ KA VK.out rfl _ HCK.out Tryz.underlying121 rfl (by kernel_rfl) ?_)
            | (refine wpList_look rfl 117 _ _ true rfl (.map (some (B + 1))) (.agg KA) _ rfl rfl HLK.out ?_)
            | (refine wpList_mapUp rfl 117 _ _ _ rfl (.map (some (B + 1))) (.agg KA) (.int .i64 (k : Int)) rfl rfl rfl w10 HUP.out ?_))
          go_roundw
          case rel => exact ⟨k + 1, _, by omega, by go_num, HF1, HM10, HZ10, HB10⟩
          case measure => simp [intOf]; omega
    · obtain rfl : k = F.length := by omega
      go_wp2_with fail
      go_ret
      exact ⟨B + 1, M, rfl, HM.out, HF.out, by omega, HB.out⟩
end Go.Proofs.YtfgaohilpbocbaaGreatDoor
end
