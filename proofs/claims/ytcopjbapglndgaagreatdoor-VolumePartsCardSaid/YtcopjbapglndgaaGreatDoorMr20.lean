/-
  Package cut's Make: the set of the files, and all their slices.
-/
import Derived.Test.YtcopjbapglndgaaGreatDoorMr19
section
namespace Go.Proofs.YtcopjbapglndgaaGreatDoor
open Go.ChangeShapes Go.WideShapes Go.ChangeAt Go.RowKit Go.Joins Go.Shelf
set_option linter.unusedVariables false

attribute [local go_sem] Oper.semAt_some

def MakePost (L : List Inp) (s : Int) (w : World) (e : Ending) (w' : World) : Prop := Below w.heap.size w w' ∧ ∃ c, CodeIs L s c ∧
  ((c ≠ 0 ∧ e = .returned (.tuple #[.agg zSetA, .slice none 0 0, .int .i64 c])) ∨
   (c = 0 ∧ ∃ fa fc sa sc ra rc, e = .returned (.tuple #[.agg (rowArr 3 (setV (setOf L s) fa fc sa sc)), .slice ra (srcsTo L s L.length).length rc, .int .i64 0]) ∧ SetAt w' (setOf L s) fa fc sa sc ∧ SrcAt w' ra rc (srcsTo L s L.length)))
/-- Bytes that lie in a block of bytes. -/
def ByAt (w : World) (p : Option Addr) : Prop := ∀ ad, p = some ad → ∃ cs, w.heap[ad.block]? = some (.cells cs 5 (0, 0))
/-- Of what kinds the blocks are that Make makes. -/
structure MkK (B : Nat) (w : World) (fa sa ra : Option Addr) (n : Nat) : Prop where
  f : ∀ ad, fa = some ad → ∃ cs, w.heap[ad.block]? = some (.cells cs 58 (0, 0))
  s : ∀ ad, sa = some ad → ∃ cs, w.heap[ad.block]? = some (.cells cs 64 (0, 0))
  r : ∀ ad, ra = some ad → ∃ cs, w.heap[ad.block]? = some (.cells cs 35 (0, 0))
  b : ∀ ad, ra = some ad → ∀ i, i < n → ∀ p m q, w.cell? ⟨ad.block, i, none⟩ = some (.slice p m q) → ByAt w p ∧ ∀ a2, p = some a2 → B ≤ a2.block
  z : sa = none → n = 0
def MakeAll (L : List Inp) (s : Int) (w : World) (e : Ending) (w' : World) : Prop := Below w.heap.size w w' ∧ ∃ c, CodeIs L s c ∧
  ((c ≠ 0 ∧ e = .returned (.tuple #[.agg zSetA, .slice none 0 0, .int .i64 c])) ∨
   (c = 0 ∧ ∃ fa fc sa sc ra rc, e = .returned (.tuple #[.agg (rowArr 3 (setV (setOf L s) fa fc sa sc)), .slice ra (srcsTo L s L.length).length rc, .int .i64 0]) ∧ SetAt w' (setOf L s) fa fc sa sc ∧ SrcAt w' ra rc (srcsTo L s L.length) ∧ MkK w.heap.size w' fa sa ra (srcsTo L s L.length).length ∧ (sa = none → sc = 0)))
/-- What a round over a function leaves behind for the function's end. -/
def mkD (D : Nat) : Deferred := { target := .collected D, args := #[] }
theorem leaves_marks {F : Fence} {n : Nat} {P : Program} {fn : Func} {tmps : Array Value} {R : Ending → World → Prop} : ∀ (Dn : List Nat) (W : World), Dn.Nodup → (∀ D ∈ Dn, W.heap[D]? = some (.deferred (some []))) →
    (∀ W', Fr (fun b => b ∈ Dn) W W' → LeavesIn F n P fn tmps R [] .returning W') → LeavesInM F n P fn tmps R (Dn.map mkD) .returning W
  | [], W, _, _, h => h W (Fr.refl _ _)
  | D :: r, W, hn, hD, h => by
    have h1 := hD D (by simp)
    have hn2 := List.nodup_cons.1 hn
    refine ⟨by simp, .inl ⟨D, W.putObj D (.deferred none), rfl, run_takeDeferred h1, leaves_marks r _ hn2.2 (fun D' hD' => ?_) fun W' hW' => h W' ?_⟩⟩
    · have hne : D' ≠ D := fun e => hn2.1 (e ▸ hD')
      rw [World.putObj_heap_other hne]
      exact hD D' (by simp [hD'])
    · have f1 : Fr (fun b => b ∈ D :: r) W (W.putObj D (.deferred none)) := Fr.of_grown (grownBy_putObj' W D (.deferred none)) fun b hb => by cases hb; simp
      exact f1.trans (hW'.mono fun b _ hb => by simp [hb])

/-- What is so ahead of each file. -/
def MkInv (L : List Inp) (S : Nat) (a : Option Addr) (cap b4 : Nat) (w2 : World) (a' : Act) (W : World) : Prop := ∃ (u10 u11 u12 u24 u25 u26 u27 u28 u29 u30 u31 u32 u33 u34 u35 u36 u37 u38 u39 u40 u41 u42 u43 u44 u45 u46 u47 u48 u49 u50 u51 u52 u53 u54 u55 u56 u57 u58 u59 u60 u61 u62 u63 u64 u65 u66 : Value) (Ds : List Deferred), (∃ (k : Nat) (Dn : List Nat) (fv sv rv : Value) (R : List Bw), u24 = .int .i64 (k : Int) ∧ k ≤ L.length ∧ Ds = Dn.map mkD ∧ Hid (Dn.Nodup) ∧ Hid (∀ D ∈ Dn, w2.heap.size + 1 < D ∧ W.heap[D]? = some (.deferred (some []))) ∧ Hid (MkSt w2 W ⟨(S : Int), filsTo L S k, (srcsTo L S k).map smOf⟩ fv sv rv R) ∧ Hid (R.map (·.l) = srcsTo L S k)) ∧ a' = { tmps := #[.slice a L.length cap, .int .i64 (S : Int), undef, undef, .pointer (some ⟨b4, 0, none⟩), .slice none 0 0, .int .i64 0, .int .i64 0, .pointer (some ⟨w2.heap.size, 0, none⟩), .pointer (some ⟨w2.heap.size + 1, 0, none⟩), u10, u11, u12, .slice a L.length cap, .int .i64 (S : Int), .int .i64 0, .int .i64 0, .bool false, undef, undef, .int .i64 (S : Int), .agg #[.int .i64 (S : Int), .slice none 0 0, .slice none 0 0], .slice a L.length cap, .int .i64 (L.length : Int), u24, u25, u26, u27, u28, u29, u30, u31, u32, u33, u34, u35, u36, u37, u38, u39, u40, u41, u42, u43, u44, u45, u46, u47, u48, u49, u50, u51, u52, u53, u54, u55, u56, u57, u58, u59, u60, u61, u62, u63, u64, u65, u66, undef, undef], defers := Ds }
def MkMu (n : Nat) (a' : Act) : Nat := n - (intOf (a'.tmps.getD 24 undef)).toNat
set_option maxRecDepth 1000000 in
set_option maxHeartbeats 32000000 in
theorem make_all (a : Option Addr) (cap : Nat) (L : List Inp) (s : Int) (w : World) (hs : Inps w a cap L) (hf : FewI L) (hz : i64R s) (hm : Mx w) (ht : Tabs w) (hF : Fours w) :
    Calls Tryz.prog 8 #[.slice a L.length cap, .int .i64 s] w (MakeAll L s w) := by
  have mixed : Tryz.prog.follows .mixedOrders = true := by kernel_rfl
  obtain ⟨PQ, hPQ⟩ : ∃ PQ, PQ = MakeAll L s w := ⟨_, rfl⟩
  have HPQ := Lib.hid hPQ
  rw [← hPQ]
  have hb0 : Below w.heap.size w (w.alloc (.cells zSetA 29)) := (Below.refl _ _).alloc (Nat.le_refl _) _
  have hr0 : (w.alloc (.cells zSetA 29)).heap[w.heap.size]? = some (.cells zSetA 29 (0, 0)) := heap_alloc_last w _
  have HB0 := Lib.hid hb0
  have HR0 := Lib.hid hr0
  have HS := Lib.hid (hs.below hb0)
  have HFW := Lib.hid hf
  have HM := Lib.hid (hm.below hb0)
  have HT := Lib.hid (ht.below hb0)
  have HFO := Lib.hid (hF.below hb0)
  have HFA := Lib.hid (fault_any a cap L s _ (hs.below hb0) hf hz (hm.below hb0))
  have hll := hf.len
  have hlm := hs.lt
  obtain ⟨hz1, hz2⟩ := hz
  have HZS : Hid (w.alloc (.cells zSetA 29) = w.alloc (.cells #[.int .i64 0, .slice none 0 0, .slice none 0 0] 29)) := rfl
  clear hb0 hr0 hs hf hm ht hF hPQ
  refine (callsIn_wide (n := 5)).1 ?_
  refine callsIn_of_wp_marks Tryz.func8 rfl trivial ?_ rfl
  simp only [Tryz.ntmps8, List.size_toArray, List.length_cons, List.length_nil, Nat.reduceAdd, Nat.reduceSub, Array.replicate_succ, Array.replicate_zero, List.push_toArray, List.append_toArray, List.nil_append, List.cons_append]
  refine wpIn_wide.2 ?_
  go_upto_region 1 with fail
  rw [← HZS.out]
  obtain ⟨b4, hb4⟩ : ∃ b4, b4 = w.heap.size := ⟨_, rfl⟩
  have HB4 := Lib.hid hb4
  rw [← hb4] at HR0 ⊢
  generalize w.alloc (.cells zSetA 29) = w1 at *
  clear hb4 HZS
  go_upto_region 2 with (go_at_call 19; (with_reducible refine HFA.out.mono ?_); rintro e w2 ⟨⟨c, rfl, hc⟩, b2⟩; have HC := Lib.hid hc; have HB2 := Lib.hid b2; clear hc b2 HFA)
  have hr4 : w2.heap[b4]? = some (.cells zSetA 29 (0, 0)) := (HB2.out.block b4 (Array.getElem?_eq_some_iff.1 HR0.out).1).trans HR0.out
  have HR2 := Lib.hid hr4
  have HBW2 := Lib.hid (HB0.out.trans (HB2.out.mono HB0.out.size))
  clear hr4
  by_cases hc0 : c = 0
  case neg =>
    have hcb : (c == 0) = false := beq_false_of_ne hc0
    have HPE : Hid (∀ w', Below w.heap.size w w' → PQ (.returned (.tuple #[.agg zSetA, .slice none 0 0, .int .i64 c])) w') := by
      show ∀ _, _
      rw [HPQ.out]; exact fun w' h => ⟨h, c, HC.out, .inl ⟨hc0, rfl⟩⟩
    clear hc0
    go_wp2_with (refine wpList_store_arr rfl 29 _ _ rfl b4 zSetA rfl rfl 29 _ HR2.out (by kernel_rfl) rfl (by kernel_rfl) ?_; intro w3 HC3 hf3; have HB3 : Hid (Below w.heap.size w w3) := HBW2.out.trans (hf3.out.below HBW2.out.size (fun k hk e => by have := HB4.out; omega)); clear hf3)
    exact ⟨_, results_cell_tmp2 rfl _ _ b4 29 zSetA (0, 0) _ rfl HC3.out Tryz.underlying29 rfl (by kernel_rfl) (.slice none 0 0) (.int .i64 c) rfl rfl, HPE.out w3 HB3.out⟩
  subst hc0
  have hft := HC.out.fit
  obtain ⟨S, rfl⟩ : ∃ S : Nat, s = (S : Int) := ⟨s.toNat, by have := hft.s1; omega⟩
  have hS1 : 1 ≤ S := by have := hft.s1; omega
  have hS2 : S ≤ 256 := by have := hft.s2; omega
  have HFT := Lib.hid hft
  clear hft
  have HMK0 : Hid (MkSt w2 ((w2.alloc (.cells #[.int .i64 (S : Int), .slice none 0 0, .slice none 0 0] 29)).alloc (.cells #[.slice none 0 0] 30)) ⟨(S : Int), filsTo L S 0, (srcsTo L S 0).map smOf⟩ (.slice none 0 0) (.slice none 0 0) (.slice none 0 0) []) := by
    refine ⟨(JoinSt.first w2 (S : Int)).later ((Below.refl _ _).alloc (Nat.le_refl _) _), ?_, ⟨rfl, .inl ⟨rfl, rfl⟩⟩, fun b hb => (by cases hb), fun b hb => (by cases hb)⟩
    have h := heap_alloc_last (w2.alloc (.cells #[.int .i64 (S : Int), .slice none 0 0, .slice none 0 0] 29)) (.cells #[.slice none 0 0] 30 (0, 0))
    rwa [World.size_alloc] at h
  go_wp2_with fail
  clear HFT
  generalize (w2.alloc (.cells #[.int .i64 (S : Int), .slice none 0 0, .slice none 0 0] 29)).alloc (.cells #[.slice none 0 0] 30) = w3 at *
  refine wp_loop (MkInv L S a cap b4 w2) (fun a' W => MkMu L.length a') ?_ ?_
  · unfold MkInv
    (repeat apply Exists.intro)
    refine ⟨⟨0, [], _, _, _, [], rfl, Nat.zero_le _, rfl, List.nodup_nil, fun D hD => (by cases hD), HMK0.out, rfl⟩, rfl⟩
  intro a' W hinv
  unfold MkInv at hinv
  obtain ⟨u10, hinv⟩ := hinv; obtain ⟨u11, hinv⟩ := hinv; obtain ⟨u12, hinv⟩ := hinv; obtain ⟨u24, hinv⟩ := hinv; obtain ⟨u25, hinv⟩ := hinv; obtain ⟨u26, hinv⟩ := hinv; obtain ⟨u27, hinv⟩ := hinv; obtain ⟨u28, hinv⟩ := hinv; obtain ⟨u29, hinv⟩ := hinv; obtain ⟨u30, hinv⟩ := hinv; obtain ⟨u31, hinv⟩ := hinv; obtain ⟨u32, hinv⟩ := hinv; obtain ⟨u33, hinv⟩ := hinv; obtain ⟨u34, hinv⟩ := hinv; obtain ⟨u35, hinv⟩ := hinv; obtain ⟨u36, hinv⟩ := hinv; obtain ⟨u37, hinv⟩ := hinv; obtain ⟨u38, hinv⟩ := hinv; obtain ⟨u39, hinv⟩ := hinv; obtain ⟨u40, hinv⟩ := hinv; obtain ⟨u41, hinv⟩ := hinv; obtain ⟨u42, hinv⟩ := hinv; obtain ⟨u43, hinv⟩ := hinv; obtain ⟨u44, hinv⟩ := hinv; obtain ⟨u45, hinv⟩ := hinv; obtain ⟨u46, hinv⟩ := hinv; obtain ⟨u47, hinv⟩ := hinv; obtain ⟨u48, hinv⟩ := hinv; obtain ⟨u49, hinv⟩ := hinv; obtain ⟨u50, hinv⟩ := hinv; obtain ⟨u51, hinv⟩ := hinv; obtain ⟨u52, hinv⟩ := hinv; obtain ⟨u53, hinv⟩ := hinv; obtain ⟨u54, hinv⟩ := hinv; obtain ⟨u55, hinv⟩ := hinv; obtain ⟨u56, hinv⟩ := hinv; obtain ⟨u57, hinv⟩ := hinv; obtain ⟨u58, hinv⟩ := hinv; obtain ⟨u59, hinv⟩ := hinv; obtain ⟨u60, hinv⟩ := hinv; obtain ⟨u61, hinv⟩ := hinv; obtain ⟨u62, hinv⟩ := hinv; obtain ⟨u63, hinv⟩ := hinv; obtain ⟨u64, hinv⟩ := hinv; obtain ⟨u65, hinv⟩ := hinv; obtain ⟨u66, hinv⟩ := hinv
  obtain ⟨Ds, hrel, ha⟩ := hinv
  subst ha
  obtain ⟨k, Dn, fv, sv, rv, R, h24, hk, hDs, HDN, HDS, HMK, HRL⟩ := hrel
  subst h24 hDs
  clear HMK0
  have HB1 : Hid (Below w1.heap.size w1 W) := HB2.out.trans (HMK.out.j.below.mono HB2.out.size)
  by_cases hlt : k < L.length
  · obtain ⟨fb, off, ha2, hbl, hx⟩ := inps_one (HS.out.below HB1.out) hlt
    subst ha2
    obtain ⟨k0, k1⟩ := inp_cells hlt hx
    have hby := HS.out.byte _ (List.getElem_mem hlt)
    have hslo := HS.out.sl _ (List.getElem_mem hlt)
    have hslw := hslo.below HB1.out
    have hgd := getI hlt
    have hone := HFW.out.one hlt
    rw [hgd] at hone
    obtain ⟨f, hfe⟩ : ∃ f, f = L[k] := ⟨_, rfl⟩
    rw [← hfe] at k0 k1 hgd hby hone hslw hslo
    have HSLO := Lib.hid hslo
    have HGD := Lib.hid hgd
    have HSLF := Lib.hid hslw
    have HBY := Lib.hid hby.1
    have HN1 := Lib.hid hone.2
    have HN2 := Lib.hid hone.1
    obtain ⟨ra, rc, hrv, hrs⟩ := HMK.out.r.src
    rw [HRL.out, srcsTo_len] at hrv
    have hF3 := HFW.out.cnt (S : Int) (k := k) (by omega)
    obtain ⟨F0, hF0⟩ : ∃ F0, F0 = cntOf L (S : Int) k := ⟨_, rfl⟩
    rw [← hF0] at hrv hF3
    have HF0 := Lib.hid hF0
    subst hrv
    obtain ⟨A, hA⟩ : ∃ A, A = strOf f.name := ⟨_, rfl⟩
    obtain ⟨n2, hn2⟩ : ∃ n2, n2 = f.b.length := ⟨_, rfl⟩
    have HAE := Lib.hid hA
    have HN2E := Lib.hid hn2
    rw [← hA] at k0
    rw [← hn2] at k1
    have HBA : Hid (Below W.heap.size W (W.alloc (.cells #[.string A, .slice f.a n2 f.c] 54))) := (Below.refl _ _).alloc (Nat.le_refl _) _
    have HGB : Hid ((W.alloc (.cells #[.string A, .slice f.a n2 f.c] 54)).heap[W.heap.size]? = some (.cells #[.string A, .slice f.a n2 f.c] 54 (0, 0))) := heap_alloc_last W _
    clear hx hslw hslo hgd hone hfe hby hrs hF0 hA hn2
    go_upto_region 9 with fail
    obtain ⟨gb, hgb⟩ : ∃ gb, gb = W.heap.size := ⟨_, rfl⟩
    have HGBE := Lib.hid hgb
    rw [← hgb] at HGB ⊢
    have HMK7 := Lib.hid (HMK.out.later HBA.out)
    have HDS7 := Lib.hid (marks_fr HDS.out (Fr.of_below (X := fun _ => False) HBA.out) (fun b hb => hb.elim))
    have HB17 := Lib.hid (HB1.out.trans (HBA.out.mono HB1.out.size))
    have HSL7 := Lib.hid (HSLF.out.below HBA.out)
    have HNF : Hid (∀ v : Value, (∃ cs e, ∀ b, v.ownBlock = some b → W.heap[b]? = some (.cells cs e (0, 0))) → ¬ v.ownBlock = some gb) := fun v ⟨cs, e, h⟩ hb => by
      have := (Array.getElem?_eq_some_iff.1 (h _ hb)).1
      have := HGBE.out
      omega
    have hnf : ¬ fv.ownBlock = some gb := fun e => by have := (HMK.out.j.fo.at e).2; have := HGBE.out; omega
    have HNS : Hid (¬ sv.ownBlock = some gb) := fun e => by have := (HMK.out.j.so.at e).2; have := HGBE.out; omega
    have HNR : Hid (¬ (Value.slice ra F0 rc).ownBlock = some gb) := fun e => by have := (HMK.out.r.ro.at e).2; have := HGBE.out; omega
    have HWL : Hid (w2.heap.size + 1 < gb) := by have := (Array.getElem?_eq_some_iff.1 HMK.out.r.b9).1; have := HGBE.out; show _ < _; omega
    generalize W.alloc (.cells #[.string A, .slice f.a n2 f.c] 54) = w7 at *
    clear hgb k0 k1 HBA HMK HDS HB1 HSLF hbl
    obtain ⟨wd, hwd⟩ : ∃ wd, wd = w7.drew := ⟨_, rfl⟩
    have hdr : Below w7.heap.size w7 wd := by rw [hwd]; exact (Below.refl _ _).drew
    have HMD := Lib.hid (HMK7.out.later hdr)
    have HDSD := Lib.hid (marks_fr HDS7.out (Fr.of_below (X := fun _ => False) hdr) (fun b hb => hb.elim))
    have HB1D := Lib.hid (HB17.out.trans (hdr.mono HB17.out.size))
    have HSLD := Lib.hid (HSL7.out.below hdr)
    have HGD8 : Hid (wd.heap[gb]? = some (.cells #[.string A, .slice f.a n2 f.c] 54 (0, 0))) := (hdr.block gb (Array.getElem?_eq_some_iff.1 HGB.out).1).trans HGB.out
    have hgl : gb < wd.heap.size := (Array.getElem?_eq_some_iff.1 HGD8.out).1
    have hsz : w2.heap.size < wd.heap.size := HMD.out.j.box.lt
    have hn8 : ¬ fv.ownBlock = some w2.heap.size := fun e => by have := (HMD.out.j.fo.at e).1; omega
    have hn9 : ¬ fv.ownBlock = some (w2.heap.size + 1) := fun e => by
      obtain ⟨_, c1⟩ := HMD.out.j.fo.kind e
      exact kinds_ne c1 HMD.out.r.b9 (by decide)
    have hl9 : w2.heap.size + 1 < wd.heap.size := (Array.getElem?_eq_some_iff.1 HMD.out.r.b9).1
    have q8 : ∀ u : KeepW wd (fun j => fv.ownBlock = some j), u.v.cell? ⟨w2.heap.size, 1, none⟩ = some fv := fun u => (u.cell hsz hn8).trans (HMD.out.j.box.cell 1 (by omega))
    have q9 : ∀ u : KeepW wd (fun j => fv.ownBlock = some j), u.v.cell? ⟨w2.heap.size + 1, 0, none⟩ = some (.slice ra F0 rc) := fun u => (u.cell hl9 hn9).trans (by rw [cell_of_block HMD.out.r.b9]; rfl)
    have q0 : ∀ u : KeepW wd (fun j => fv.ownBlock = some j), u.v.cell? ⟨gb, 0, none⟩ = some (.string A) := fun u => (u.cell hgl hnf).trans (by rw [cell_of_block HGD8.out]; rfl)
    have q1 : ∀ u : KeepW wd (fun j => fv.ownBlock = some j), u.v.cell? ⟨gb, 1, none⟩ = some (.slice f.a n2 f.c) := fun u => (u.cell hgl hnf).trans (by rw [cell_of_block HGD8.out]; rfl)
    have hdg := digest_sl f.a f.c f.b wd HSLD.out (by have := HN2.out; omega) (HT.out.below HB1D.out)
    rw [← HN2E.out] at hdg
    obtain ⟨DG, hDG⟩ : ∃ DG, DG = rowArr 32 (vOf (dgN f.b)) := ⟨_, rfl⟩
    rw [← hDG] at hdg
    have HDG := Lib.hid hdg
    obtain ⟨FA, hFA⟩ : ∃ FA, FA = rowArr 35 (filV (filOf L (S : Int) k)) := ⟨_, rfl⟩
    have HFAE := Lib.hid hFA
    have HBF : Hid (Tryz.prog.built 58 [(0, .string A), (1, .int .i64 (n2 : Int)), (2, .agg DG), (3, .int .i64 (F0 : Int))] = some FA) := by
      show _ = _
      have h := built_fil (filOf L (S : Int) k)
      rw [hFA, ← h, hDG, HAE.out, HN2E.out, HF0.out]
      unfold filOf
      rw [HGD.out]
    clear hdg hDG hFA hdr hn8 hn9 HNF HMK7 HDS7 HB17 HSL7 HGB
    refine growK_begin 16 (fun w' => ∃ u : KeepW wd (fun j => fv.ownBlock = some j), w' = u.v) (by kernel_rfl) ?_
    rw [← hwd]
    clear hwd
    refine growK_take (by kernel_rfl) [0, 1, 2, 3, 4, 5, 6, 7, 8, 10, 11] 6 _ _ (by kernel_rfl) _ (keep_class (Fr.refl _ _)) ?_
    simp only [opsAt, List.getElem?_toArray, List.getElem?_cons_succ, List.getElem?_cons_zero]
    repeat (first | go_big_quiet_step (fail) | quiet_step (fail))
    refine wpQuiet_nil ?_
    clear q8 q9 q0 q1
    refine growK_one 9 (by kernel_rfl) (fun K hK => ?_)
    simp only [stepOf, List.getElem?_toArray, List.getElem?_cons_succ, List.getElem?_cons_zero]
    go_simp
    go_at_call 20
    (with_reducible refine HDG.out.mono ?_)
    rintro e w9 ⟨rfl, hb9⟩
    have HB9 := Lib.hid hb9
    refine hK.out _ _ (keep_class (Fr.of_below HB9.out)) ?_
    clear hK K HDG hb9
    refine growK_build (by kernel_rfl) 12 58 _ FA rfl rfl (by decide) (by kernel_rfl) (by kernel_rfl) (by kernel_rfl) (by kernel_rfl) (by kernel_rfl) (by rfl) (by go_simp; exact HBF.out) _ (keep_class (Fr.of_below HB9.out)) ?_
    refine growK_one 13 (by kernel_rfl) (fun K hK => ?_)
    simp only [stepOf, List.getElem?_toArray, List.getElem?_cons_succ, List.getElem?_cons_zero]
    rw [if_pos (by rfl)]
    refine op_oneF _ rfl (filOf L (S : Int) k) (congrArg Value.agg HFAE.out) ?_
    have hb10 : Below w9.heap.size w9 (w9.alloc (.cells (rowArr 35 (filV (filOf L (S : Int) k))) 58)) := (Below.refl _ _).alloc (Nat.le_refl _) _
    have HB10 : Hid (Below wd.heap.size wd (w9.alloc (.cells (rowArr 35 (filV (filOf L (S : Int) k))) 58))) := HB9.out.trans (hb10.mono HB9.out.size)
    have HC10 : Hid ((w9.alloc (.cells (rowArr 35 (filV (filOf L (S : Int) k))) 58)).heap[w9.heap.size]? = some (.cells (rowArr 35 (filV (filOf L (S : Int) k))) 58 (0, 0))) := heap_alloc_last w9 _
    generalize w9.alloc (.cells (rowArr 35 (filV (filOf L (S : Int) k))) 58) = w10 at *
    refine hK.out _ _ (keep_class (Fr.of_below HB10.out)) ?_
    clear hK K hb10
    have HM10 := Lib.hid (HMD.out.later HB10.out)
    have hsz10 : w2.heap.size + 1 ≤ w10.heap.size := HM10.out.j.box.lt
    refine growK_one 14 (by kernel_rfl) (fun K hK => ?_)
    simp only [stepOf, List.getElem?_toArray, List.getElem?_cons_succ, List.getElem?_cons_zero]
    rw [if_pos (by rfl)]
    refine op_push_f _ (.tmp 29) (.tmp 41) rfl (w2.heap.size + 1) fv (filsTo L (S : Int) k) rfl HM10.out.j.fo w9.heap.size rfl (filOf L (S : Int) k) HC10.out hsz10 (by rw [filsTo_len]; omega) ?_
    intro v11 w11 o11 g11 e11
    have hnf11 : ¬ v11.ownBlock = some gb := fun e => by
      rcases e11.out with h | h
      · exact hnf (h ▸ e)
      · rw [h] at e
        have := HB10.out.size
        have := Option.some.inj e
        omega
    obtain ⟨qa, qc, hv11, _, _⟩ := o11.out.slice
    obtain ⟨ql, hql⟩ : ∃ ql, ql = (filsTo L (S : Int) k ++ [filOf L (S : Int) k]).length := ⟨_, rfl⟩
    rw [← hql] at hv11
    subst hv11
    clear hql
    have hF11 : Fr (fun j => fv.ownBlock = some j) w10 w11 := Fr.of_grown g11.out fun b e => e
    obtain ⟨hr11, hj11⟩ := HM10.out.file o11.out hF11
    have F11 : Hid (Fr (fun j => fv.ownBlock = some j) wd w11) := (Fr.of_below HB10.out).trans hF11
    have HM11 := Lib.hid hj11
    refine hK.out _ _ (keep_class F11.out) ?_
    clear hK K o11 g11 e11 HC10 hF11 hj11 HM10
    have q11 := hr11.cell 1 (by omega)
    have l11 := hr11.loose 1
    refine growK_take (by kernel_rfl) [15] 1 _ _ (by kernel_rfl) _ (keep_class F11.out) ?_
    simp only [opsAt, List.getElem?_toArray, List.getElem?_cons_succ, List.getElem?_cons_zero]
    repeat (first | go_big_quiet_step (fail) | quiet_step (fail))
    refine wpQuiet_nil ?_
    refine growK_last (by kernel_rfl) (by kernel_rfl) (fun K hK => ?_)
    simp only [stepOf, List.getElem?_toArray, List.getElem?_cons_succ, List.getElem?_cons_zero]
    go_simp
    refine hK.out _ _ ?_
    clear hK K q11 l11 hr11
    obtain ⟨fv2, hfv2⟩ : ∃ fv2, fv2 = Value.slice qa ql qc := ⟨_, rfl⟩
    rw [← hfv2] at HM11 hnf11
    rw [← hfv2]
    have hset : Fr (fun j => j = w2.heap.size) w11 (w11.setCell ⟨w2.heap.size, 1, none⟩ fv2) := Fr.set (X := fun j => j = w2.heap.size) (p := ⟨w2.heap.size, 1, none⟩) (Fr.refl _ w11) (fun _ => rfl) _
    have HF12 : Hid (Fr (fun j => fv.ownBlock = some j ∨ j = w2.heap.size) wd (w11.setCell ⟨w2.heap.size, 1, none⟩ fv2)) := (F11.out.mono fun b _ h => .inl h).trans (hset.mono fun b _ h => .inr h)
    clear hfv2 hset F11
    generalize w11.setCell ⟨w2.heap.size, 1, none⟩ fv2 = w12 at *
    have HM12 : Hid (MkSt w2 w12 ⟨(S : Int), filsTo L (S : Int) (k + 1), (srcsTo L (S : Int) k).map smOf⟩ fv2 sv (.slice ra F0 rc) R) := by
      have h := HM11.out
      rw [← filsTo_succ] at h
      exact h
    have HDS12 := Lib.hid (marks_fr HDSD.out HF12.out (fun b hb => by
      rcases hb with h | h
      · exact .inr (by obtain ⟨cs, hc⟩ := HMD.out.j.fo.kind h; exact ⟨cs, _, hc⟩)
      · exact .inl (by omega)))
    have hG12 : w12.heap[gb]? = some (.cells #[.string A, .slice f.a n2 f.c] 54 (0, 0)) := (HF12.out.block gb hgl (fun h => by
      rcases h with h | h
      · exact hnf h
      · have := HWL.out; omega)).trans HGD8.out
    have c1 : w12.cell? ⟨gb, 1, none⟩ = some (.slice f.a n2 f.c) := by rw [cell_of_block hG12]; rfl
    have hgl12 : gb < w12.heap.size := (Array.getElem?_eq_some_iff.1 hG12).1
    have HB12 : Hid (Below w1.heap.size w1 w12) := HB2.out.trans (HM12.out.j.below.mono HB2.out.size)
    have HCHK := Lib.hid (chunk_any f.a n2 f.c S hS1 hS2 w12)
    clear HM11 HDSD HF12 HMD HGD8 HSLD hG12 hnf hsz hl9 hsz10 HB10 HB9 HB1D HBF HFAE
    go_upto_region 11 with (go_at_call 21; (with_reducible refine HCHK.out.mono ?_); rintro e w13 ⟨rfl, hw13⟩; have HW13 := Lib.hid hw13; clear hw13 HCHK)
    have hcell : w13.heap[w12.heap.size]? = some (.cells #[.slice f.a n2 f.c] 35 (0, 0)) := by
      rw [HW13.out]; exact (Below.heap_alloc _ _ _ (by simp)).trans (heap_alloc_last w12 _)
    have hceln : w13.heap[w12.heap.size + 1]? = some (.cells #[.int .i64 (S : Int)] 3 (0, 0)) := by
      rw [HW13.out]
      have h := heap_alloc_last (w12.alloc (.cells #[.slice f.a n2 f.c] 35)) (.cells #[.int .i64 (S : Int)] 3 (0, 0))
      rwa [World.size_alloc] at h
    have hb13 : Below w12.heap.size w12 w13 := by rw [HW13.out]; exact ((Below.refl _ _).alloc (Nat.le_refl _) _).alloc (by simp) _
    have hs13 : w13.heap.size = w12.heap.size + 2 := by rw [HW13.out]; simp
    have HB13 := Lib.hid (HB12.out.trans (hb13.mono HB12.out.size))
    have hM13 := HM12.out.later hb13
    have hD13 := marks_fr HDS12.out (Fr.of_below (X := fun _ => False) hb13) (fun b hb => hb.elim)
    obtain ⟨gg, go, hgg⟩ : ∃ gg go, f.b = [] ∨ f.a = some ⟨gg, go, none⟩ := by
      rcases HSLO.out.here with h | ⟨b, o, h, _⟩
      · exact ⟨0, 0, .inl h⟩
      · exact ⟨b, o, .inr h⟩
    obtain ⟨CV, hCV⟩ : ∃ CV : Nat → Value, CV = fun x => .slice (some ⟨gg, go + x * S, none⟩) (chunkAt f.b S x).length (chunkAt f.b S x).length := ⟨_, rfl⟩
    have HCV := Lib.hid hCV
    have HGG := Lib.hid hgg
    have hnr12 : ¬ (Value.slice ra F0 rc).ownBlock = some w12.heap.size := fun e => by have := (HM12.out.r.ro.at e).2; omega
    have HI0 : Hid (ChI w2 L S k f.b w12.heap.size (w12.heap.size + 1) w13.heap.size (.slice f.a n2 f.c) Dn fv2 [] w13) :=
      ⟨⟨sv, _, R, by simpa using hM13, by simpa using HRL.out, hnr12⟩, hcell, hceln, hD13, fun D hD => (Array.getElem?_eq_some_iff.1 (hD13 D hD).2).1⟩
    have hc0 : w13.cell? ⟨w12.heap.size, 0, none⟩ = some (.slice f.a f.b.length f.c) := by rw [cell_of_block hcell, ← HN2E.out]; rfl
    have hc1 : w13.cell? ⟨w12.heap.size + 1, 0, none⟩ = some (.int .i64 (S : Int)) := by rw [cell_of_block hceln]; rfl
    have hlc := HSLO.out.len
    have hmc : f.c ≤ 9223372036854775807 := by have := HSLO.out.most; unfold maxLen at this; omega
    have hw212 : w2.heap.size + 1 < w12.heap.size := (Array.getElem?_eq_some_iff.1 HM12.out.r.b9).1
    clear hM13 hD13 hcell hceln hb13 hgg hnr12 HW13 c1 hCV
    refine (wpIn_wide (n := 5)).1 ?_
    refine wpIn_rangeFunc_ownF (w0 := w13) rfl (by omega) (gf := 44) (lb := #[.pointer (some ⟨w12.heap.size, 0, none⟩), .pointer (some ⟨w12.heap.size + 1, 0, none⟩)]) rfl trivial (enters_of Tryz.func44 (by kernel_rfl) rfl)
      (chunk_stops (5 - 1) w12.heap.size (w12.heap.size + 1) gg go f.c f.a f.b S HN2.out hS1 hS2 hlc hmc HGG.out w13 hc0 hc1) (fun h k => h.trans k)
      (fun W l o o' hl ho hn _ => ⟨by simp, World.putObj_heap_other (by omega), World.putObj_heap_other (by omega)⟩) (Below.refl _ _) (fun _ => rfl)
      (ChI w2 L S k f.b w12.heap.size (w12.heap.size + 1) w13.heap.size (.slice f.a n2 f.c) Dn fv2) (fun _ _ _ => False) (ChI.own (by omega) (by omega) (by omega)) (fun _ _ _ _ _ hs _ _ => hs) HI0.out
      (fun x => { tmps := #[.slice (some ⟨fb, off, none⟩) L.length cap, .int .i64 (S : Int), undef, undef, .pointer (some ⟨b4, 0, none⟩), .slice none 0 0, .int .i64 0, .int .i64 0, .pointer (some ⟨w2.heap.size, 0, none⟩), .pointer (some ⟨w2.heap.size + 1, 0, none⟩), u10, .pointer (some ⟨gb, 0, none⟩), CV x, .slice (some ⟨fb, off, none⟩) L.length cap, .int .i64 (S : Int), .int .i64 0, .int .i64 0, .bool false, undef, undef, .int .i64 (S : Int), .agg #[.int .i64 (S : Int), .slice none 0 0, .slice none 0 0], .slice (some ⟨fb, off, none⟩) L.length cap, .int .i64 (L.length : Int), .int .i64 (k : Int), .bool true, .pointer (some ⟨fb, off + k * 2, none⟩), .agg #[.string A, .slice f.a n2 f.c], .pointer (some ⟨w2.heap.size, 1, none⟩), fv, .pointer (some ⟨gb, 0, none⟩), .string A, .pointer (some ⟨gb, 1, none⟩), .slice f.a n2 f.c, .int .i64 (n2 : Int), .pointer (some ⟨gb, 1, none⟩), .slice f.a n2 f.c, .agg DG, .slice ra F0 rc, .int .i64 (F0 : Int), .agg FA, .slice (some ⟨w9.heap.size, 0, none⟩) 1 1, fv2, .pointer (some ⟨w2.heap.size, 1, none⟩), .pointer (some ⟨gb, 1, none⟩), .slice f.a n2 f.c, .int .i64 (S : Int), .func (.func 44) #[] #[.pointer (some ⟨w12.heap.size, 0, none⟩), .pointer (some ⟨w12.heap.size + 1, 0, none⟩)], CV x, u49, u50, u51, u52, u53, u54, u55, u56, u57, u58, u59, u60, u61, u62, u63, u64, u65, u66, undef, undef], defers := [] }) ?assign ?body ?done ?stop
    case assign =>
      intro l x W' K hK
      have hv : (encC gg go f.b S x) = #[CV x] := by rw [HCV.out]; rfl
      rw [hv]
      gi_wp2
      exact hK
    case body =>
      intro l pre x W' hI hlen
      obtain ⟨sv2, rv2, R2, hm, hrl, hnx⟩ := hI.st
      obtain ⟨P, hP⟩ : ∃ P, P = chunkAt f.b S x := ⟨_, rfl⟩
      obtain ⟨m, hme⟩ : ∃ m, m = P.length := ⟨_, rfl⟩
      obtain ⟨pa, hpa⟩ : ∃ pa : Option Addr, pa = some ⟨gg, go + x * S, none⟩ := ⟨_, rfl⟩
      have hcv : CV x = .slice pa m m := by rw [HCV.out, hme, hP, hpa]
      rw [hcv]
      have hsp : Sl w1 pa m P := by rw [hpa, hme, hP]; exact sl_chunk HSLO.out HGG.out S x
      have hml : m ≤ 30000 := by have := chunkAt_len f.b S x; have := HN2.out; rw [hme, hP]; omega
      have hpl : pre.length ≤ 30000 := by have := cntN_le (f.b.length : Int) (S : Int); have := HN2.out; omega
      have HPE := Lib.hid hP
      have HME := Lib.hid hme
      have HSP := Lib.hid hsp
      have HPB := Lib.hid hsp.byte
      have HIX := Lib.hid hI
      have hb1w : Below w1.heap.size w1 W' := HB2.out.trans (hm.j.below.mono HB2.out.size)
      have hlen2 : ((srcsTo L (S : Int) k ++ pre.map (chunkAt f.b S)).map smOf).length ≤ 60000 := by
        rw [List.length_map, List.length_append, srcsTo_len, List.length_map, ← HF0.out]; omega
      have hlenR : (R2.map (·.v)).length ≤ 60000 := by
        have h := congrArg List.length hrl
        rw [List.length_map, List.length_append, srcsTo_len, List.length_map, ← HF0.out] at h
        rw [List.length_map, h]; omega
      have HLR := Lib.hid hlenR
      have HLS := Lib.hid hlen2
      have HRL2 := Lib.hid hrl
      obtain ⟨SL0, hSL0⟩ : ∃ SL0, SL0 = (srcsTo L (S : Int) k ++ pre.map (chunkAt f.b S)).map smOf := ⟨_, rfl⟩
      rw [← hSL0] at hm HLS
      have HSL0 := Lib.hid hSL0
      have HMw := Lib.hid hm
      have HNX := Lib.hid hnx
      obtain ⟨wd, hwd⟩ : ∃ wd, wd = W'.drew := ⟨_, rfl⟩
      have hdr : Below W'.heap.size W' wd := by rw [hwd]; exact (Below.refl _ _).drew
      have HDR := Lib.hid hdr
      have HMd := Lib.hid (hm.later hdr)
      have hb1d : Below w1.heap.size w1 wd := hb1w.trans (hdr.mono hb1w.size)
      have hsz : w2.heap.size < wd.heap.size := HMd.out.j.box.lt
      have hn8 : ¬ sv2.ownBlock = some w2.heap.size := fun e => by have := (HMd.out.j.so.at e).1; omega
      have q8 : ∀ u : KeepW wd (fun j => sv2.ownBlock = some j), u.v.cell? ⟨w2.heap.size, 2, none⟩ = some sv2 := fun u => (u.cell hsz hn8).trans (HMd.out.j.box.cell 2 (by omega))
      have hcr := crc_sl pa m P wd (hsp.below hb1d) (HFO.out.below hb1d)
      have hdg2 := digest_sl pa m P wd (hsp.below hb1d) (by omega) (HT.out.below hb1d)
      obtain ⟨cr, hcre⟩ : ∃ cr, cr = crcOf P := ⟨_, rfl⟩
      obtain ⟨DH, hDH⟩ : ∃ DH, DH = rowArr 32 (vOf (dgN P)) := ⟨_, rfl⟩
      obtain ⟨SA, hSA⟩ : ∃ SA, SA = rowArr 34 (smV (smOf P)) := ⟨_, rfl⟩
      rw [← hme, ← hcre] at hcr
      rw [← hme, ← hDH] at hdg2
      have HCR := Lib.hid hcr
      have HDH := Lib.hid hdg2
      have HSAE := Lib.hid hSA
      have HBS : Hid (Tryz.prog.built 64 [(0, .int .i64 (m : Int)), (1, .int .u32 (cr : Int)), (2, .agg DH)] = some SA) := by
        show _ = _
        rw [hSA, ← built_sm (smOf P), hme, hcre, hDH]
        rfl
      clear hcr hdg2 hDH hSA hcre hn8 hb1w hb1d hsp hI hm hrl hnx hP hme hpa hcv hSL0 hlen2 hlenR hlen
      gi_wp2
      refine growR_begin 12 (fun w' => ∃ u : KeepW wd (fun j => sv2.ownBlock = some j), w' = u.v) (by kernel_rfl) (by kernel_rfl) ?_
      rw [← hwd]
      clear hwd
      refine growK_take (by kernel_rfl) [0, 1, 2, 3, 4, 6] 7 _ _ (by kernel_rfl) _ (keep_class (Fr.refl _ _)) ?_
      simp only [opsAt, List.getElem?_toArray, List.getElem?_cons_succ, List.getElem?_cons_zero]
      repeat (first | go_big_quiet_step (fail) | quiet_step (fail))
      refine wpQuiet_nil ?_
      clear q8
      refine growK_one 5 (by kernel_rfl) (fun K hK => ?_)
      simp only [stepOf, List.getElem?_toArray, List.getElem?_cons_succ, List.getElem?_cons_zero]
      go_simp
      go_at_call 22
      (with_reducible refine HCR.out.mono ?_)
      rintro e w8 ⟨rfl, hw8⟩
      subst hw8
      refine hK.out _ _ (keep_class (Fr.refl _ _)) ?_
      clear hK K HCR
      refine growK_one 7 (by kernel_rfl) (fun K hK => ?_)
      simp only [stepOf, List.getElem?_toArray, List.getElem?_cons_succ, List.getElem?_cons_zero]
      go_simp
      go_at_call 20
      (with_reducible refine HDH.out.mono ?_)
      rintro e w4 ⟨rfl, hb4⟩
      have HB4d := Lib.hid hb4
      refine hK.out _ _ (keep_class (Fr.of_below HB4d.out)) ?_
      clear hK K HDH hb4
      refine growK_build (by kernel_rfl) 8 64 _ SA rfl rfl (by decide) (by kernel_rfl) (by kernel_rfl) (by kernel_rfl) (by kernel_rfl) (by kernel_rfl) (by rfl) (by go_simp; exact HBS.out) _ (keep_class (Fr.of_below HB4d.out)) ?_
      refine growK_one 9 (by kernel_rfl) (fun K hK => ?_)
      simp only [stepOf, List.getElem?_toArray, List.getElem?_cons_succ, List.getElem?_cons_zero]
      rw [if_pos (by rfl)]
      refine op_oneS _ rfl (smOf P) (congrArg Value.agg HSAE.out) ?_
      have hb5 : Below w4.heap.size w4 (w4.alloc (.cells (rowArr 34 (smV (smOf P))) 64)) := (Below.refl _ _).alloc (Nat.le_refl _) _
      have HB5 : Hid (Below wd.heap.size wd (w4.alloc (.cells (rowArr 34 (smV (smOf P))) 64))) := HB4d.out.trans (hb5.mono HB4d.out.size)
      have HC5 : Hid ((w4.alloc (.cells (rowArr 34 (smV (smOf P))) 64)).heap[w4.heap.size]? = some (.cells (rowArr 34 (smV (smOf P))) 64 (0, 0))) := heap_alloc_last w4 _
      generalize w4.alloc (.cells (rowArr 34 (smV (smOf P))) 64) = w5 at *
      refine hK.out _ _ (keep_class (Fr.of_below HB5.out)) ?_
      clear hK K hb5
      have HM5 := Lib.hid (HMd.out.later HB5.out)
      have hsz5 : w2.heap.size + 1 ≤ w5.heap.size := HM5.out.j.box.lt
      refine growK_one 10 (by kernel_rfl) (fun K hK => ?_)
      simp only [stepOf, List.getElem?_toArray, List.getElem?_cons_succ, List.getElem?_cons_zero]
      rw [if_pos (by rfl)]
      refine op_push_s _ (.tmp 50) (.tmp 58) rfl (w2.heap.size + 1) sv2 SL0 rfl HM5.out.j.so (some ⟨w4.heap.size, 0, none⟩) 1 [smOf P] rfl (sms_single (smOf_ok HPB.out (by rw [← HME.out]; omega)) HC5.out) hsz5 (by have := HLS.out; omega) (by show 1 ≤ 1000000; omega) ?_
      intro v6 w6 o6 f6 e6
      obtain ⟨qa, qc, hv6, _, _⟩ := o6.out.slice
      obtain ⟨ql, hql⟩ : ∃ ql, ql = (SL0 ++ [smOf P]).length := ⟨_, rfl⟩
      rw [← hql] at hv6
      subst hv6
      clear hql
      obtain ⟨hr6, hj6⟩ := HM5.out.sums o6.out f6.out
      have F6 : Hid (Fr (fun j => sv2.ownBlock = some j) wd w6) := (Fr.of_below HB5.out).trans f6.out
      have HM6 := Lib.hid hj6
      refine hK.out _ _ (keep_class F6.out) ?_
      clear hK K o6 f6 e6 HC5 hj6 HM5
      have q6 := hr6.cell 2 (by omega)
      have l6 := hr6.loose 2
      refine growK_take (by kernel_rfl) [11] 1 _ _ (by kernel_rfl) _ (keep_class F6.out) ?_
      simp only [opsAt, List.getElem?_toArray, List.getElem?_cons_succ, List.getElem?_cons_zero]
      repeat (first | go_big_quiet_step (fail) | quiet_step (fail))
      refine wpQuiet_nil ?_
      refine growK_last (by kernel_rfl) (by kernel_rfl) (fun K hK => ?_)
      simp only [stepOf, List.getElem?_toArray, List.getElem?_cons_succ, List.getElem?_cons_zero]
      go_simp
      refine hK.out _ _ ?_
      clear hK K q6 l6 hr6
      obtain ⟨sv3, hsv3⟩ : ∃ sv3, sv3 = Value.slice qa ql qc := ⟨_, rfl⟩
      rw [← hsv3] at HM6
      rw [← hsv3]
      have hset : Fr (fun j => j = w2.heap.size) w6 (w6.setCell ⟨w2.heap.size, 2, none⟩ sv3) := Fr.set (X := fun j => j = w2.heap.size) (p := ⟨w2.heap.size, 2, none⟩) (Fr.refl _ w6) (fun _ => rfl) _
      have HF7 : Hid (Fr (fun j => sv2.ownBlock = some j ∨ j = w2.heap.size) wd (w6.setCell ⟨w2.heap.size, 2, none⟩ sv3)) := (F6.out.mono fun b _ h => .inl h).trans (hset.mono fun b _ h => .inr h)
      clear hsv3 hset F6 HB5 HB4d HBS HSAE hsz hsz5
      generalize w6.setCell ⟨w2.heap.size, 2, none⟩ sv3 = w7 at *
      simp only [OnlyN]
      obtain ⟨we, hwe⟩ : ∃ we, we = w7.drew := ⟨_, rfl⟩
      have hdr2 : Below w7.heap.size w7 we := by rw [hwe]; exact (Below.refl _ _).drew
      have HMe := Lib.hid (HM6.out.later hdr2)
      have HFe : Hid (Fr (fun j => sv2.ownBlock = some j ∨ j = w2.heap.size) wd we) := HF7.out.trans (Fr.of_below hdr2)
      have hb1e : Below w1.heap.size w1 we := HB2.out.trans (HMe.out.j.below.mono HB2.out.size)
      have hn9 : ¬ rv2.ownBlock = some (w2.heap.size + 1) := fun e => by
        obtain ⟨_, c1⟩ := HMe.out.r.ro.kind e
        exact kinds_ne c1 HMe.out.r.b9 (by decide)
      have hl9 : w2.heap.size + 1 < we.heap.size := (Array.getElem?_eq_some_iff.1 HMe.out.r.b9).1
      have q9 : ∀ u : KeepW we (fun j => rv2.ownBlock = some j), u.v.cell? ⟨w2.heap.size + 1, 0, none⟩ = some rv2 := fun u => (u.cell hl9 hn9).trans (by rw [cell_of_block HMe.out.r.b9]; rfl)
      have hcl := clone_own pa m P we (by rw [← HME.out]; omega) (HSP.out.below hb1e)
      rw [← HME.out] at hcl
      have HCL := Lib.hid hcl
      clear hcl hb1e hn9 HM6 HF7 hdr2
      gi_wp2
      refine growR_begin 5 (fun w' => ∃ u : KeepW we (fun j => rv2.ownBlock = some j), w' = u.v) (by kernel_rfl) (by kernel_rfl) ?_
      rw [← hwe]
      clear hwe
      refine growK_take (by kernel_rfl) [0, 1] 4 _ _ (by kernel_rfl) _ (keep_class (Fr.refl _ _)) ?_
      simp only [opsAt, List.getElem?_toArray, List.getElem?_cons_succ, List.getElem?_cons_zero]
      repeat (first | go_big_quiet_step (fail) | quiet_step (fail))
      refine wpQuiet_nil ?_
      clear q9
      refine growK_one 2 (by kernel_rfl) (fun K hK => ?_)
      simp only [stepOf, List.getElem?_toArray, List.getElem?_cons_succ, List.getElem?_cons_zero]
      go_simp
      go_at_call 23
      (with_reducible refine HCL.out.mono ?_)
      rintro e w8 ⟨ca, cc, rfl, ho8, hb8, hn8⟩
      have HN8 : Hid (∀ j, (Value.slice ca m cc).ownBlock = some j → w2.heap.size ≤ j) := fun j hj => by
        cases ca with
        | none => cases hj
        | some p =>
          have h1 := hn8 p rfl
          have h2 : some p.block = some j := hj
          cases h2
          omega
      have HO8 := Lib.hid ho8
      have HB8 := Lib.hid hb8
      refine hK.out _ _ (keep_class (Fr.of_below HB8.out)) ?_
      clear hK K HCL ho8 hb8 hn8
      refine growK_one 3 (by kernel_rfl) (fun K hK => ?_)
      simp only [stepOf, List.getElem?_toArray, List.getElem?_cons_succ, List.getElem?_cons_zero]
      rw [if_pos (by rfl)]
      refine op_oneB _ rfl ca m cc rfl ?_
      have hb9 : Below w8.heap.size w8 (w8.alloc (.cells #[.slice ca m cc] 35)) := (Below.refl _ _).alloc (Nat.le_refl _) _
      have HB9e : Hid (Below we.heap.size we (w8.alloc (.cells #[.slice ca m cc] 35))) := HB8.out.trans (hb9.mono HB8.out.size)
      have HC9 : Hid ((w8.alloc (.cells #[.slice ca m cc] 35)).heap[w8.heap.size]? = some (.cells [Value.slice ca m cc].toArray 35 (0, 0))) := heap_alloc_last w8 _
      have HO9 : Hid (OwnB (w8.alloc (.cells #[.slice ca m cc] 35)) (.slice ca m cc) P) := by
        have h := HO8.out.fr (X := fun _ => False) (Fr.of_below hb9) (fun b hb h => h)
        exact h
      generalize w8.alloc (.cells #[.slice ca m cc] 35) = w9 at *
      refine hK.out _ _ (keep_class (Fr.of_below HB9e.out)) ?_
      clear hK K hb9 HO8
      have HM9 := Lib.hid (HMe.out.later HB9e.out)
      have hsz9 : w2.heap.size + 1 ≤ w9.heap.size := HM9.out.j.box.lt
      refine growK_one 4 (by kernel_rfl) (fun K hK => ?_)
      simp only [stepOf, List.getElem?_toArray, List.getElem?_cons_succ, List.getElem?_cons_zero]
      rw [if_pos (by rfl)]
      refine op_push_1 _ (.tmp 61) (.tmp 64) 30 35 rfl Tryz.underlying30 infoBs rfl (by decide) (w2.heap.size + 1) rv2 (R2.map (·.v)) rfl HM9.out.r.ro w8.heap.size 1 rfl [.slice ca m cc] rfl HC9.out (by intro u hu; rw [List.mem_singleton.1 hu]; rfl) hsz9 (by have := HLR.out; omega) (by decide) ?_
      intro v10 w10 o10 g10 e10
      obtain ⟨qa2, qc2, hv10, _, _⟩ := o10.out.slice
      obtain ⟨ql2, hql2⟩ : ∃ ql2, ql2 = (R2.map (·.v) ++ [Value.slice ca m cc]).length := ⟨_, rfl⟩
      rw [← hql2] at hv10
      have hf10 : Fr (fun j => rv2.ownBlock = some j) w9 w10 := Fr.of_grown g10.out fun b e => e
      obtain ⟨h9b, hj10⟩ := HM9.out.src (g := ⟨.slice ca m cc, P⟩) ⟨HO9.out, HPB.out⟩ HN8.out o10.out hf10
      have HNX2 : Hid (¬ v10.ownBlock = some w12.heap.size) := fun e => by
        rcases e10.out with h | h
        · exact HNX.out (h ▸ e)
        · rw [h] at e
          have h1 := Option.some.inj e
          have h2 := (Array.getElem?_eq_some_iff.1 HIX.out.box).1
          have h3 := HDR.out.size
          have h4 := HFe.out.size
          have h5 := HB9e.out.size
          omega
      have F10 : Hid (Fr (fun j => rv2.ownBlock = some j) we w10) := (Fr.of_below HB9e.out).trans hf10
      have HM10 := Lib.hid hj10
      refine hK.out _ _ (keep_class F10.out) ?_
      subst hv10
      clear hK K hql2 o10 g10 e10 HC9 hf10 hj10 HM9
      have q10 : w10.cell? ⟨w2.heap.size + 1, 0, none⟩ = some rv2 := by rw [cell_of_block h9b]; rfl
      have l10 : w10.frozen? ⟨w2.heap.size + 1, 0, none⟩ = false := unfrozen_of_block h9b 0
      refine growK_last (by kernel_rfl) (by kernel_rfl) (fun K hK => ?_)
      simp only [stepOf, List.getElem?_toArray, List.getElem?_cons_succ, List.getElem?_cons_zero]
      go_simp
      refine hK.out _ _ ?_
      clear hK K q10 l10 h9b
      obtain ⟨rv3, hrv3⟩ : ∃ rv3, rv3 = Value.slice qa2 ql2 qc2 := ⟨_, rfl⟩
      rw [← hrv3] at HM10 HNX2
      rw [← hrv3]
      have hset : Fr (fun j => j = w2.heap.size + 1) w10 (w10.setCell ⟨w2.heap.size + 1, 0, none⟩ rv3) := Fr.set (X := fun j => j = w2.heap.size + 1) (p := ⟨w2.heap.size + 1, 0, none⟩) (Fr.refl _ w10) (fun _ => rfl) _
      have HFz : Hid (Fr (fun j => sv2.ownBlock = some j ∨ j = w2.heap.size ∨ rv2.ownBlock = some j ∨ j = w2.heap.size + 1) W' (w10.setCell ⟨w2.heap.size + 1, 0, none⟩ rv3)) :=
        (((Fr.of_below HDR.out).trans (HFe.out.mono fun b _ h => h.elim (fun h => .inl h) (fun h => .inr (.inl h)))).trans (F10.out.mono fun b _ h => .inr (.inr (.inl h)))).trans (hset.mono fun b _ h => .inr (.inr (.inr h)))
      clear hrv3 hset F10 HFe
      generalize w10.setCell ⟨w2.heap.size + 1, 0, none⟩ rv3 = wz at *
      simp only [OnlyN]
      gi_wp2
      have hX : ∀ b, (sv2.ownBlock = some b ∨ b = w2.heap.size ∨ rv2.ownBlock = some b ∨ b = w2.heap.size + 1) → ∃ cs e, W'.heap[b]? = some (.cells cs e (0, 0)) ∧ (e = 64 ∨ e = 29 ∨ (e = 35 ∧ rv2.ownBlock = some b) ∨ e = 30) := fun b hb => by
        rcases hb with h | h | h | h
        · obtain ⟨cs, hc⟩ := HMw.out.j.so.kind h
          exact ⟨cs, _, hc, .inl rfl⟩
        · obtain ⟨cs, hc, _, _⟩ := HMw.out.j.box
          subst h
          exact ⟨cs, _, hc, .inr (.inl rfl)⟩
        · obtain ⟨cs, hc⟩ := HMw.out.r.ro.kind h
          exact ⟨cs, _, hc, .inr (.inr (.inl ⟨rfl, h⟩))⟩
        · subst h
          exact ⟨_, _, HMw.out.r.b9, .inr (.inr (.inr rfl))⟩
      have hbx : wz.heap[w12.heap.size]? = W'.heap[w12.heap.size]? := HFz.out.block _ (Array.getElem?_eq_some_iff.1 HIX.out.box).1 fun h => by
        obtain ⟨cs, e, hc, he⟩ := hX _ h
        rw [HIX.out.box] at hc
        cases hc
        rcases he with he | he | he | he
        · exact absurd he (by decide)
        · exact absurd he (by decide)
        · exact HNX.out he.2
        · exact absurd he (by decide)
      have hbn : wz.heap[w12.heap.size + 1]? = W'.heap[w12.heap.size + 1]? := HFz.out.block _ (Array.getElem?_eq_some_iff.1 HIX.out.bon).1 fun h => by
        obtain ⟨cs, e, hc, he⟩ := hX _ h
        rw [HIX.out.bon] at hc
        cases hc
        rcases he with he | he | he | he
        · exact absurd he (by decide)
        · exact absurd he (by decide)
        · exact absurd he.1 (by decide)
        · exact absurd he (by decide)
      refine ⟨others_of_fr HFz.out fun b hb => by obtain ⟨cs, e, hc, _⟩ := hX b hb; exact ⟨cs, e, hc⟩, ⟨HFz.out.size, hbx, hbn⟩, ⟨⟨sv3, rv3, R2 ++ [⟨.slice ca m cc, P⟩], ?_, ?_, HNX2.out⟩, hbx.trans HIX.out.box, hbn.trans HIX.out.bon, marks_fr HIX.out.marks HFz.out fun b hb => .inr (by obtain ⟨cs, e, hc, _⟩ := hX b hb; exact ⟨cs, e, hc⟩), HIX.out.old⟩⟩
      · have e : (srcsTo L (S : Int) k ++ (pre ++ [x]).map (chunkAt f.b S)).map smOf = SL0 ++ [smOf P] := by rw [HSL0.out, HPE.out]; simp
        rw [e]
        exact HM10.out
      · rw [List.map_append, HRL2.out, HPE.out]
        simp
    case done =>
      rintro D ys W' hD rfl hI hDf
      obtain ⟨sv2, rv2, R2, hm, hrl, hnx⟩ := hI.st
      have hsr : srcsTo L (S : Int) (k + 1) = srcsTo L (S : Int) k ++ (List.range (cntN (f.b.length : Int) (S : Int))).map (chunkAt f.b S) := by
        show srcsTo L (S : Int) k ++ chunksOf (L.getD k zInp).b (S : Int) = _
        rw [HGD.out]
        rfl
      rw [← hsr] at hm hrl
      have HMe := Lib.hid hm
      have HRe := Lib.hid hrl
      have HNe : Hid ((D :: Dn).Nodup) := List.nodup_cons.2 ⟨fun h => by have := hI.old D h; omega, HDN.out⟩
      have HDe : Hid (∀ D' ∈ D :: Dn, w2.heap.size + 1 < D' ∧ W'.heap[D']? = some (.deferred (some []))) := fun D' h => by
        rcases List.mem_cons.1 h with h | h
        · subst h; exact ⟨by omega, hDf⟩
        · exact hI.marks D' h
      clear hm hrl hnx hI hDf hsr hD
      go_wp2_with fail
      unfold MkInv
      refine ⟨?_, ?measure⟩
      (repeat apply Exists.intro)
      refine ⟨?rel, rfl⟩
      case rel => exact ⟨k + 1, D :: Dn, fv2, sv2, rv2, R2, by go_num, by omega, rfl, HNe.out, HDe.out, HMe.out, HRe.out⟩
      case measure => unfold MkMu; simp [intOf]; omega
    case stop =>
      rintro D c pre W' _ _ h _
      exact h.elim
  · obtain rfl : k = L.length := by omega
    obtain ⟨fa, fc, hfv, _, _⟩ := HMK.out.j.fo.slice
    obtain ⟨sa, sc, hsv, _, _⟩ := HMK.out.j.so.slice
    obtain ⟨ra, rc, hrv, _⟩ := HMK.out.r.src
    rw [HRL.out] at hrv
    rw [hfv, hsv] at HMK
    obtain ⟨SV, hSV⟩ : ∃ SV, SV = rowArr 3 (setV (setOf L (S : Int)) fa fc sa sc) := ⟨_, rfl⟩
    have VS : Hid (rowArr 3 (setV (setOf L (S : Int)) fa fc sa sc) = SV) := hSV.symm
    have HSs : Hid (SV.size = 3) := by show _ = _; rw [hSV, rowArr_size]
    have HS1 : Hid (SV.all (·.oneCell') = true) := by show _ = _; rw [hSV]; simp [rowArr, List.range_succ, setV, Value.oneCell']
    have hr4 : W.heap[b4]? = some (.cells zSetA 29 (0, 0)) := (HMK.out.j.below.block b4 (Array.getElem?_eq_some_iff.1 HR2.out).1).trans HR2.out
    have hb48 : b4 < w2.heap.size := (Array.getElem?_eq_some_iff.1 HR2.out).1
    have hsz : w2.heap.size < W.heap.size := HMK.out.j.box.lt
    have hl9 : w2.heap.size + 1 < W.heap.size := (Array.getElem?_eq_some_iff.1 HMK.out.r.b9).1
    obtain ⟨wd, hwd⟩ : ∃ wd, wd = W.drew := ⟨_, rfl⟩
    have hdr : Below W.heap.size W wd := by rw [hwd]; exact (Below.refl _ _).drew
    have hszd := hdr.size
    have KX : Hid (∀ u : KeepW wd (fun j => j = b4), ∀ j, j < 3 → u.v.cell? ⟨w2.heap.size, 0 + j, none⟩ = some (setV (setOf L (S : Int)) fa fc sa sc j)) := fun u j hj => by
      rw [Nat.zero_add]
      refine ((u.cell (by omega) (by omega)).trans (hdr.cell (p := ⟨w2.heap.size, j, none⟩) hsz)).trans ((HMK.out.j.box.cell j hj).trans ?_)
      unfold sv3 setV
      rfl
    have q9 : ∀ u : KeepW wd (fun j => j = b4), u.v.cell? ⟨w2.heap.size + 1, 0, none⟩ = some rv := fun u => ((u.cell (by omega) (by omega)).trans (hdr.cell (p := ⟨w2.heap.size + 1, 0, none⟩) hl9)).trans (by rw [cell_of_block HMK.out.r.b9]; rfl)
    have HR4 : Hid (wd.heap[b4]? = some (.cells zSetA 29 (0, 0))) := (hdr.block b4 (Array.getElem?_eq_some_iff.1 hr4).1).trans hr4
    have HRV := Lib.hid hrv
    have HDR := Lib.hid hdr
    have HRW4 := Lib.hid hr4
    clear hSV hdr hr4 hrv hfv hsv
    have hlt2 : ¬ ((L.length : Int) < (L.length : Int)) := by omega
    go_upto_region 15 with fail
    refine growK_begin 4 (fun w' => ∃ u : KeepW wd (fun j => j = b4), w' = u.v) (by kernel_rfl) ?_
    rw [← hwd]
    clear hwd
    refine growK_take (by kernel_rfl) [0, 1] 3 _ _ (by kernel_rfl) _ (keep_class (Fr.refl _ _)) ?_
    simp only [opsAt, List.getElem?_toArray, List.getElem?_cons_succ, List.getElem?_cons_zero]
    repeat (first
      | (refine wpQuiet_load_v (by rfl) 29 _ rfl w2.heap.size 0 3 _ SV VS.out rfl _ (fun w hw j hj => by obtain ⟨u, rfl⟩ := hw; exact KX.out u j hj) Tryz.underlying29 rfl (by kernel_rfl) ?_)
      | go_big_quiet_step (fail) | quiet_step (fail))
    refine wpQuiet_nil ?_
    clear q9 KX
    refine growK_one 2 (by kernel_rfl) (fun K hK => ?_)
    simp only [stepOf, List.getElem?_toArray, List.getElem?_cons_succ, List.getElem?_cons_zero]
    rw [if_pos (by rfl)]
    refine wp_store_row 29 _ _ rfl b4 SV rfl rfl 29 zSetA HR4.out (by rw [HSs.out]; kernel_rfl) (by rw [HSs.out]; rfl) HS1.out ?_
    have HF5 : Hid (Fr (fun j => j = b4) wd (wd.setRow b4 SV)) := Fr.setRow (X := fun k => k = b4) (Fr.refl _ wd) (fun _ => rfl) SV
    have HC5 : Hid ((wd.setRow b4 SV).heap[b4]? = some (.cells SV 29 (0, 0))) := setRow_heap _ _ _ _ _ _ HR4.out
    generalize wd.setRow b4 SV = w5 at *
    refine hK.out _ _ (keep_class HF5.out) ?_
    clear hK K
    refine growK_take (by kernel_rfl) [3] 1 _ _ (by kernel_rfl) _ (keep_class HF5.out) ?_
    simp only [opsAt, List.getElem?_toArray, List.getElem?_cons_succ, List.getElem?_cons_zero]
    repeat (first | go_big_quiet_step (fail) | quiet_step (fail))
    refine wpQuiet_nil ?_
    refine growK_last (by kernel_rfl) (by kernel_rfl) (fun K hK => ?_)
    simp only [stepOf, List.getElem?_toArray, List.getElem?_cons_succ, List.getElem?_cons_zero]
    go_simp
    refine hK.out _ _ ?_
    clear hK K
    go_wp2_with fail
    have hFW : Fr (fun j => j = b4) W w5 := (Fr.of_below HDR.out).trans HF5.out
    have hD5 : ∀ D ∈ Dn, w5.heap[D]? = some (.deferred (some [])) := fun D hD => (marks_fr HDS.out hFW (fun b hb => .inl (by omega)) D hD).2
    refine leaves_marks Dn w5 HDN.out hD5 fun W2 hfr => ?_
    have hT : Fr (fun j => j = b4 ∨ j ∈ Dn) W W2 := (hFW.mono fun b _ h => .inl h).trans (hfr.mono fun b _ h => .inr h)
    have h4 : W2.heap[b4]? = some (.cells SV 29 (0, 0)) := (hfr.block b4 (Array.getElem?_eq_some_iff.1 HC5.out).1 (fun h => by have := (HDS.out b4 h).1; omega)).trans HC5.out
    have hno : ∀ b, (b = b4 ∨ b ∈ Dn) → ∀ cs e, W.heap[b]? = some (.cells cs e (0, 0)) → e = 29 := fun b hb cs e hc => by
      rcases hb with h | h
      · subst h
        rw [HRW4.out] at hc
        cases hc
        rfl
      · rw [(HDS.out b h).2] at hc; cases hc
    have hfo := HMK.out.j.fo.fr hT (fun b hb hx => by obtain ⟨cs, hc⟩ := HMK.out.j.fo.kind hb; exact absurd (hno b hx _ _ hc) (by decide))
    have hso := HMK.out.j.so.fr hT (fun b hb hx => by obtain ⟨cs, hc⟩ := HMK.out.j.so.kind hb; exact absurd (hno b hx _ _ hc) (by decide))
    have hre := HMK.out.r.fr hT (fun b hb cs e hc => by rw [hno b hb cs e hc]; decide)
    have hfil : ∀ x ∈ filsTo L (S : Int) L.length, FilOk x := fun x hx => by
      obtain ⟨k, hk, rfl⟩ := List.mem_map.1 hx
      have hk2 := List.mem_range.1 hk
      have h1 := HFW.out.one hk2
      exact filOf_ok (by rw [getI hk2]; exact (HS.out.byte _ (List.getElem_mem hk2)).1) h1.2 h1.1 (HFW.out.cnt _ (by omega))
    have hsms : ∀ x ∈ (srcsTo L (S : Int) L.length).map smOf, SmOk x := fun x hx => by
      obtain ⟨c, hc, rfl⟩ := List.mem_map.1 hx
      have h1 := srcs_short L S _ c hc
      rw [← HRL.out] at hc
      obtain ⟨b, hb, rfl⟩ := List.mem_map.1 hc
      exact smOf_ok (HMK.out.r.bods b hb).2 (by omega)
    obtain ⟨ra2, rc2, hrv2, hsrc⟩ := hre.src
    rw [HRL.out] at hrv2 hsrc
    have hbw : Below w.heap.size w W2 := (HBW2.out.trans (HMK.out.j.below.mono HBW2.out.size)).trans (hT.below (by have := HBW2.out.size; omega) (fun j hj h => by
      rcases h with h | h
      · have := HB4.out; omega
      · have := (HDS.out j h).1; have := HBW2.out.size; omega))
    refine ⟨_, results_cell_tmp2 rfl _ _ b4 29 SV (0, 0) _ rfl h4 Tryz.underlying29 rfl (by rw [HSs.out]; kernel_rfl) rv (.int .i64 0) rfl rfl, ?_⟩
    rw [HPQ.out]
    have hkk : MkK w.heap.size W2 fa sa ra2 (srcsTo L (S : Int) L.length).length := by
      refine ⟨fun ad h => hfo.kind (b := ad.block) (by rw [h]; rfl), fun ad h => hso.kind (b := ad.block) (by rw [h]; rfl), fun ad h => hre.ro.kind (b := ad.block) (by rw [hrv2, h]; rfl), fun ad h i hi p m q hp => ?_, fun h => ?_⟩
      · have hro := hre.ro
        rw [hrv2] at hro
        have hll : (srcsTo L (S : Int) L.length).length = (R.map (·.v)).length := by rw [← HRL.out, List.length_map, List.length_map]
        rw [hll] at hro hi
        obtain ⟨g, hg, _, hc⟩ := hro.cell hi
        rw [h] at hg
        cases hg
        rw [hp] at hc
        have hv := Option.some.inj hc
        rw [List.getElem_map] at hv
        have hi2 : i < R.length := by rw [List.length_map] at hi; exact hi
        have hb := hre.bods R[i] (List.getElem_mem hi2)
        exact ⟨fun ad2 h2 => hb.1.kind (b := ad2.block) (by rw [← hv, h2]; rfl), fun ad2 h2 => Nat.le_trans HBW2.out.size (hre.low R[i] (List.getElem_mem hi2) ad2.block (by rw [← hv, h2]; rfl))⟩
      · have h1 := hso
        rw [h] at h1
        rcases h1.2 with ⟨_, h2⟩ | ⟨g, cap, cur, h2, _⟩
        · rw [List.length_map] at h2
          exact h2
        · injection h2 with h2; cases h2
    have hsn : sa = none → sc = 0 := fun h => by
      have h1 := hso
      rw [h] at h1
      exact h1.none
    exact ⟨hbw, 0, HC.out, .inr ⟨rfl, fa, fc, sa, sc, ra2, rc2, by rw [← hrv2, VS.out], ⟨⟨hz1, hz2⟩, hfo.fils hfil, hso.sms hsms⟩, hsrc, hkk, hsn⟩⟩
theorem make_any (a : Option Addr) (cap : Nat) (L : List Inp) (s : Int) (w : World) (hs : Inps w a cap L) (hf : FewI L) (hz : i64R s) (hm : Mx w) (ht : Tabs w) (hF : Fours w) :
    Calls Tryz.prog 8 #[.slice a L.length cap, .int .i64 s] w (MakePost L s w) :=
  (make_all a cap L s w hs hf hz hm ht hF).mono fun e w' ⟨hb, c, hc, h⟩ => by
    rcases h with h | ⟨h0, fa, fc, sa, sc, ra, rc, he, h1, h2, _⟩
    · exact ⟨hb, c, hc, .inl h⟩
    · exact ⟨hb, c, hc, .inr ⟨h0, fa, fc, sa, sc, ra, rc, he, h1, h2⟩⟩
end Go.Proofs.YtcopjbapglndgaaGreatDoor
end
