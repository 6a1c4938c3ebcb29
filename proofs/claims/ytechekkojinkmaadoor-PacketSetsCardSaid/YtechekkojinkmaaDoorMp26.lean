/-
  Package packet's Name.
  Rows of files, made by append; pushes where statements leave their order open.
  The document's Bodies: rows of kinds and of bodies.
-/
import Derived.Test.YtechekkojinkmaaDoorMp25
section
namespace Go.Proofs.YtechekkojinkmaaDoor
open Go.ChangeShapes Go.WideShapes Go.ChangeAt Go.RowKit Go.Joins
set_option linter.unusedVariables false

theorem results_cell_one {P : Program} {fn : Func} {p u : Tmp} {ty : TypeId} (h : fn.results = #[.cell p ty, .tmp u]) (tmps : Array Value) (w : World) (g : Nat) (t : TypeId) (cs : Array Value) (fr : Nat × Nat) (d : TypeDesc)
    (hp : tmps.getD p undef = .pointer (some ⟨g, 0, none⟩)) (hg : w.heap[g]? = some (.cells cs t fr))
    (hu : P.underlying ty = some d) (hd : (match d with | .struct _ | .array _ _ => true | _ => false) = true) (hi : (P.info? ty).map (·.size) = some cs.size) (a : Value) (ha : tmps.getD u undef = a) :
    (results fn tmps).run P w = .ok (.tuple #[.agg cs, a]) w := by
  have hp' : tmps[p]?.getD undef = .pointer (some ⟨g, 0, none⟩) := by simpa using hp
  have ha' : tmps[u]?.getD undef = a := by simpa using ha
  simp [results, h, hp', ha', asAddr, run_loadVar_row w g t ty cs fr d hg hu hd hi]
theorem dirS_set {S : St} {p : Pk} (h : p ∈ dirS S) : p.set = nameS S := by
  obtain ⟨q, _, rfl⟩ := List.mem_map.1 h
  rfl
theorem dirS_len (S : St) : (dirS S).length = 2 * S.files.length + 1 := by unfold dirS; rw [List.length_map, dirTo_len]
def NamePost (S : St) (w : World) (e : Ending) (w' : World) : Prop :=
  ((FormedP S → e = .returned (.tuple #[.agg (rowArr 8 (vOf (nameS S))), .int .i64 0])) ∧ (¬ FormedP S → e = .returned (.tuple #[.agg z8A, .int .i64 1]))) ∧ Below w.heap.size w w'
set_option maxRecDepth 1000000 in
set_option maxHeartbeats 4000000 in
theorem name14_any (S : St) (fa : Option Addr) (fc : Nat) (sa : Option Addr) (sc : Nat) (w : World) (hs : SetAt w S fa fc sa sc) (hm : Mx w) (ht : Tabs w) (hsn : sa = none → sc = 0) :
    Calls Tryd.prog 8 #[.agg (rowArr 3 (setV S fa fc sa sc))] w (NamePost S w) := by
  obtain ⟨PQ, hPQ⟩ : ∃ PQ, PQ = NamePost S w := ⟨_, rfl⟩
  have HPQ := Lib.hid hPQ
  rw [← hPQ]
  obtain ⟨arr, harr⟩ : ∃ arr, arr = rowArr 3 (setV S fa fc sa sc) := ⟨_, rfl⟩
  have HAR : Hid (arr.size = 3) := by show _ = _; rw [harr, rowArr_size]
  have hB0 : Below w.heap.size w (w.alloc (.cells arr 25)) := (Below.refl _ _).alloc (Nat.le_refl _) _
  have hB1 : Below w.heap.size w ((w.alloc (.cells arr 25)).alloc (.cells z8A 32)) := hB0.alloc hB0.size _
  have HB := Lib.hid hB1
  have HX1 : Hid (((w.alloc (.cells arr 25)).alloc (.cells z8A 32)).heap[w.heap.size]? = some (.cells arr 25 (0, 0))) := by
    have h1 : (w.alloc (.cells arr 25)).heap[w.heap.size]? = some (.cells arr 25 (0, 0)) := heap_alloc_last w _
    have h2 : Below (w.alloc (.cells arr 25)).heap.size (w.alloc (.cells arr 25)) ((w.alloc (.cells arr 25)).alloc (.cells z8A 32)) := (Below.refl _ _).alloc (Nat.le_refl _) _
    exact (h2.block _ (Array.getElem?_eq_some_iff.1 h1).1).trans h1
  have hs1 : (w.alloc (.cells arr 25)).heap.size = w.heap.size + 1 := by simp
  have HR1 : Hid (((w.alloc (.cells arr 25)).alloc (.cells z8A 32)).heap[w.heap.size + 1]? = some (.cells z8A 32 (0, 0))) := by
    show _ = _
    rw [← hs1]; exact heap_alloc_last _ _
  have HD := Lib.hid (directory_any S fa fc sa sc _ (hs.below hB1) (hm.below hB1) (ht.below hB1) hsn)
  rw [← harr] at HD ⊢
  clear harr hB0 hB1 hs hm ht hPQ hs1
  go_enter Tryd.func8, Tryd.ntmps8
  go_upto_region 1 with fail
  change Code.wp _ _ _ _ ((w.alloc (.cells arr 25)).alloc (.cells z8A 32))
  obtain ⟨b, hb⟩ : ∃ b, b = w.heap.size := ⟨_, rfl⟩
  have hbw : w.heap.size ≤ b := by omega
  rw [← hb] at HX1 HR1 ⊢
  generalize (w.alloc (.cells arr 25)).alloc (.cells z8A 32) = w1 at *
  clear hb
  by_cases hF : FormedP S
  case' neg =>
    have HNF := Lib.hid hF
    clear hF
    go_upto_region 3 with (first
      | (refine wpList_load_row rfl 25 _ rfl b rfl 25 arr (0, 0) _ HX1.out Tryd.underlying25 rfl (by rw [HAR.out]; kernel_rfl) ?_)
      | (go_at_call 7; (with_reducible refine HD.out.mono ?_); rintro e w2 ⟨_, hn⟩; obtain ⟨rfl, b2⟩ := hn HNF.out; have HB2 := Lib.hid b2; clear b2 hn))
    have HR2 : Hid (w2.heap[b + 1]? = some (.cells z8A 32 (0, 0))) := (HB2.out.block _ (Array.getElem?_eq_some_iff.1 HR1.out).1).trans HR1.out
    have HBw := Lib.hid (HB.out.trans (HB2.out.mono HB.out.size))
    go_wp2_with (refine wpList_store_arr rfl 32 _ _ rfl (b + 1) z8A rfl rfl 32 _ HR2.out (by kernel_rfl) rfl (by kernel_rfl) ?_; intro w3 HC3 hf3; have HB3 : Hid (Below w.heap.size w w3) := HBw.out.trans (hf3.out.below HBw.out.size (fun k hk e => by omega)); clear hf3)
    have HR : Hid (PQ (.returned (.tuple #[.agg z8A, .int .i64 1])) w3) := by
      show PQ _ _
      rw [HPQ.out]
      exact ⟨⟨fun h => absurd h HNF.out, fun _ => rfl⟩, HB3.out⟩
    exact bodyPost_ret (v := .tuple #[.agg z8A, .int .i64 1]) (results_cell_one rfl _ _ (b + 1) 32 z8A (0, 0) _ rfl HC3.out Tryd.underlying32 rfl (by kernel_rfl) (.int .i64 1) rfl) rfl HR.out
  have HFO := Lib.hid hF
  clear hF
  go_upto_region 4 with (first
      | (refine wpList_load_row rfl 25 _ rfl b rfl 25 arr (0, 0) _ HX1.out Tryd.underlying25 rfl (by rw [HAR.out]; kernel_rfl) ?_)
      | (go_at_call 7; (with_reducible refine HD.out.mono ?_); rintro e w2 ⟨hn, _⟩; obtain ⟨v, F, rfl, hp2, hf2⟩ := hn HFO.out; have HP2 := Lib.hid hp2; have HF2 := Lib.hid hf2; clear hp2 hf2 hn))
  have hFl : 0 < F.length := by rw [← List.length_map (f := fun f : Pw => f.p), HF2.out, dirS_len]; omega
  obtain ⟨av, cv, rfl, _, _⟩ := HP2.out.own.slice
  obtain ⟨g0, rfl, hg0, hcx⟩ := HP2.out.own.cells hFl
  have hset : (F[0]).p.set = nameS S := dirS_set (by rw [← HF2.out]; exact List.mem_map.2 ⟨_, List.getElem_mem hFl, rfl⟩)
  have HC8 : Hid (∀ j, j < 8 → w2.cell? ⟨g0, 0 + j, none⟩ = some (vOf (nameS S) j)) := fun j hj => by
    have := hcx j (by omega)
    rw [show 0 * 51 + j = 0 + j by omega] at this
    rw [this, ← hset]
    unfold pwV
    rw [pkV_set _ _ _ _ _ hj]
  obtain ⟨NA, hNA⟩ : ∃ NA, NA = rowArr 8 (vOf (nameS S)) := ⟨_, rfl⟩
  have VN : Hid (rowArr 8 (vOf (nameS S)) = NA) := hNA.symm
  have HNs : Hid (NA.size = 8) := by show _ = _; rw [hNA, rowArr_size]
  have HN1 : Hid (NA.all (·.oneCell') = true) := by show _ = _; rw [hNA]; exact oneCell_v _ 8
  have HR2 : Hid (w2.heap[b + 1]? = some (.cells z8A 32 (0, 0))) := (HP2.out.below.block _ (Array.getElem?_eq_some_iff.1 HR1.out).1).trans HR1.out
  have HBw := Lib.hid (HB.out.trans (HP2.out.below.mono HB.out.size))
  clear hcx hset hNA
  go_wp2_with (first
    | (refine wpList_load_v (by rfl) 32 _ rfl g0 0 8 _ NA VN.out rfl _ HC8.out Tryd.underlying32 rfl (by kernel_rfl) ?_)
    | (refine wpList_store_arr rfl 32 _ _ rfl (b + 1) NA rfl rfl 32 _ HR2.out (by rw [HNs.out]; kernel_rfl) (by rw [HNs.out]; rfl) HN1.out ?_; intro w3 HC3 hf3; have HB3 : Hid (Below w.heap.size w w3) := HBw.out.trans (hf3.out.below HBw.out.size (fun k hk e => by omega)); clear hf3))
  have HR : Hid (PQ (.returned (.tuple #[.agg NA, .int .i64 0])) w3) := by
    show PQ _ _
    rw [HPQ.out]
    exact ⟨⟨fun _ => by rw [VN.out], fun h => absurd HFO.out h⟩, HB3.out⟩
  exact bodyPost_ret (v := .tuple #[.agg NA, .int .i64 0]) (results_cell_one rfl _ _ (b + 1) 32 NA (0, 0) _ rfl HC3.out Tryd.underlying32 rfl (by rw [HNs.out]; kernel_rfl) (.int .i64 0) rfl) rfl HR.out
end Go.Proofs.YtechekkojinkmaaDoor
end

section
namespace Go.Proofs.YtechekkojinkmaaDoor
open Go.ChangeShapes Go.WideShapes Go.ChangeAt Go.RowKit Go.Joins
set_option linter.unusedVariables false

def oneF (x : Fil) : List Value := (List.range 35).map (filV x)
def encF (F : List Fil) : List Value := F.flatMap oneF
theorem oneF_len (f : Fil) : (oneF f).length = 35 := by simp [oneF]
theorem oneF_get (f : Fil) {k : Nat} (hk : k < 35) : (oneF f)[k]? = some (filV f k) := by
  unfold oneF
  rw [List.getElem?_map, List.getElem?_range hk]
  rfl
theorem encF_len : ∀ F : List Fil, (encF F).length = F.length * 35
  | [] => rfl
  | x :: l => by
    have := encF_len l
    unfold encF at this ⊢
    simp only [List.flatMap_cons, List.length_append, this, List.length_cons, oneF_len]
    omega
theorem encF_app (l m : List Fil) : encF (l ++ m) = encF l ++ encF m := by simp [encF]
theorem encF_get {l : List Fil} : ∀ {i : Nat} (h : i < l.length) {k : Nat} (hk : k < 35), (encF l)[i * 35 + k]? = some (filV l[i] k) := by
  induction l with
  | nil => intro i h; simp at h
  | cons x l ih =>
    intro i h k hk
    have e : encF (x :: l) = oneF x ++ encF l := rfl
    have hl := oneF_len x
    rw [e]
    cases i with
    | zero =>
      rw [List.getElem?_append_left (by omega), show 0 * 35 + k = k by omega, oneF_get x hk]
      rfl
    | succ i =>
      rw [List.getElem?_append_right (by omega), show (i + 1) * 35 + k - (oneF x).length = i * 35 + k by omega]
      exact ih (by simpa using h) hk
theorem filV_one (f : Fil) (j : Nat) : (filV f j).oneCell' = true := by
  unfold filV
  (repeat' split) <;> rfl
theorem encF_one (F : List Fil) : ∀ u ∈ encF F, u.oneCell' = true := fun u hu => by
  obtain ⟨f, _, hu⟩ := List.mem_flatMap.1 hu
  obtain ⟨k, _, rfl⟩ := List.mem_map.1 hu
  exact filV_one f k
def OwnF (B : Nat) (w : World) (v : Value) (F : List Fil) : Prop := w.ownsRow B 41 35 v F.length (encF F)
theorem OwnF.nil (B : Nat) (w : World) : OwnF B w (.slice none 0 0) [] := World.ownsRow_nil _ _ _ _
theorem OwnF.slice {B : Nat} {w : World} {v : Value} {F : List Fil} (h : OwnF B w v F) : ∃ a c, v = .slice a F.length c ∧ F.length ≤ c ∧ c ≤ maxLen := by
  rcases h.2 with ⟨h1, h2⟩ | ⟨g, cap, cur, h1, h2, h3, h4, h5, h6, h7⟩
  · exact ⟨none, 0, by rw [h1, h2], by omega, by unfold maxLen; omega⟩
  · exact ⟨_, cap, h1, h4, h5⟩
theorem OwnF.at {B : Nat} {w : World} {v : Value} {F : List Fil} (h : OwnF B w v F) {b : Nat} (hb : v.ownBlock = some b) : B ≤ b ∧ b < w.heap.size := by
  rcases h.2 with ⟨rfl, _⟩ | ⟨g, cap, cur, rfl, hB, hh, _⟩
  · simp [Value.ownBlock] at hb
  · have : g = b := by simpa [Value.ownBlock] using hb
    subst this
    exact ⟨hB, (Array.getElem?_eq_some_iff.1 hh).1⟩
theorem OwnF.kept {B : Nat} {w w' : World} {v : Value} {F : List Fil} (h : OwnF B w v F) (k : Below w.heap.size w w') : OwnF B w' v F := by
  refine ⟨h.1, ?_⟩
  rcases h.2 with h0 | ⟨g, cap, cur, e, hB, hh, r⟩
  · exact .inl h0
  · exact .inr ⟨g, cap, cur, e, hB, (k.block g (Array.getElem?_eq_some_iff.1 hh).1).trans hh, r⟩
theorem infoFil_q : ∃ i z, Tryd.prog.info? 41 = some i ∧ i.zero = some z ∧ z.cells.size = 35 ∧ i.size = 35 ∧ i.bytes = 64 := by
  have h : ((Tryd.prog.info? 41).bind fun i => i.zero.map fun z => (z.cells.size, i.size, i.bytes)) = some (35, 35, 64) := by kernel_rfl
  cases hi : Tryd.prog.info? 41 with
  | none => rw [hi] at h; cases h
  | some i =>
    rw [hi] at h
    simp only [Option.bind_some] at h
    cases hz : i.zero with
    | none => rw [hz] at h; cases h
    | some z =>
      rw [hz] at h
      simp only [Option.map_some, Option.some.injEq, Prod.mk.injEq] at h
      exact ⟨i, z, rfl, hz, h.1, h.2.1, h.2.2⟩

theorem OwnF.fils {B : Nat} {w : World} {a : Option Addr} {c : Nat} {F : List Fil} (h : OwnF B w (.slice a F.length c) F) (hr : ∀ x ∈ F, FilOk x) : Fils w a c F := by
  rcases h.2 with ⟨h1, h2⟩ | ⟨g, cap, cur, h1, h2, h3, h4, h5, h6, h7⟩
  · obtain ⟨a', c', e, h1', h2'⟩ := h.slice
    cases e
    exact ⟨hr, h1', h2', .inl (List.length_eq_zero_iff.1 h2)⟩
  · injection h1 with e1 e2 e3
    subst e3
    refine ⟨hr, h4, h5, .inr ⟨g, 0, e1, (Array.getElem?_eq_some_iff.1 h3).1, fun i hi k hk => ?_⟩⟩
    rw [cell_of_block h3, show 0 + i * 35 + k = i * 35 + k by omega, ← encF_get hi hk, ← h7, List.getElem?_take_of_lt (by omega), Array.getElem?_toList]
theorem OwnF.fr {B : Nat} {w w' : World} {v : Value} {F : List Fil} {X : Nat → Prop} (h : OwnF B w v F) (k : Fr X w w') (hX : ∀ b, v.ownBlock = some b → ¬ X b) : OwnF B w' v F := by
  refine ⟨h.1, ?_⟩
  rcases h.2 with h0 | ⟨g, cap, cur, e, hB, hh, r⟩
  · exact .inl h0
  · exact .inr ⟨g, cap, cur, e, hB, (k.block g (Array.getElem?_eq_some_iff.1 hh).1 (hX g (by rw [e]; rfl))).trans hh, r⟩
theorem OwnS.fr {B : Nat} {w w' : World} {v : Value} {F : List Sm} {X : Nat → Prop} (h : OwnS B w v F) (k : Fr X w w') (hX : ∀ b, v.ownBlock = some b → ¬ X b) : OwnS B w' v F := by
  refine ⟨h.1, ?_⟩
  rcases h.2 with h0 | ⟨g, cap, cur, e, hB, hh, r⟩
  · exact .inl h0
  · exact .inr ⟨g, cap, cur, e, hB, (k.block g (Array.getElem?_eq_some_iff.1 hh).1 (hX g (by rw [e]; rfl))).trans hh, r⟩
theorem own_apart {B C : Nat} {w : World} {u v : Value} {F : List Fil} {G : List Sm} (hf : OwnF B w u F) (hs : OwnS C w v G) {b : Nat} (h1 : u.ownBlock = some b) (h2 : v.ownBlock = some b) : False := by
  rcases hf.2 with ⟨rfl, _⟩ | ⟨g, cap, cur, e, _, hh, _⟩
  · simp [Value.ownBlock] at h1
  rcases hs.2 with ⟨rfl, _⟩ | ⟨g', cap', cur', e', _, hh', _⟩
  · simp [Value.ownBlock] at h2
  rw [e] at h1
  rw [e'] at h2
  have e1 : g = b := Option.some.inj h1
  have e2 : g' = b := Option.some.inj h2
  subst e1
  subst e2
  rw [hh] at hh'
  simp at hh'
theorem OwnF.none {B : Nat} {w : World} {c : Nat} {F : List Fil} (h : OwnF B w (.slice none F.length c) F) : c = 0 := by
  rcases h.2 with ⟨h1, h2⟩ | ⟨g, cap, cur, h1, _⟩
  · injection h1
  · injection h1 with e; cases e
theorem OwnS.none {B : Nat} {w : World} {c : Nat} {F : List Sm} (h : OwnS B w (.slice none F.length c) F) : c = 0 := by
  rcases h.2 with ⟨h1, h2⟩ | ⟨g, cap, cur, h1, _⟩
  · injection h1
  · injection h1 with e; cases e
theorem builtF_one (V : Nat → Value) : Tryd.prog.builtSlice 41 1 [(0, .agg (rowArr 35 V))] = some (rowArr 35 V) := by kernel_rfl
theorem op_oneF {o : Oper} {a : Act} {w : World} {K : Act → World → Prop} {Q : Exit → Act → World → Prop} (x : Operand) (ho : o.op = .buildSlice 22 1 #[(0, x)]) (f : Fil) (hx : a.eval x = .agg (rowArr 35 (filV f)))
    (h : K (a.put o.dst (.slice (some ⟨w.heap.size, 0, none⟩) 1 1)) (w.alloc (.cells (rowArr 35 (filV f)) 41))) : o.wp Tryd.prog a w K Q := by
  have hf := builtF_one (filV f)
  unfold Program.builtSlice at hf
  cases hie : Tryd.prog.info? 41 with
  | none => simp [hie] at hf
  | some ie =>
    simp only [hie] at hf
    cases hz : ie.zero with
    | none => simp [hz] at hf
    | some z =>
      simp only [hz] at hf
      by_cases hc : 1 * ie.size > 2 ^ 24 ∨ 1 * ie.size = 0
      · rw [if_pos hc] at hf; cases hf
      · rw [if_neg hc] at hf
        refine wp_buildSlice 22 41 1 _ ho _ ie z Tryd.underlying22 hie hz (fun h' => hc (Or.inl h')) (fun h' => hc (Or.inr h')) ?_ h
        simp only [List.map_toArray, List.map_cons, List.map_nil, hx]
        exact hf
theorem op_push_f {o : Oper} {a : Act} {K : Act → World → Prop} {Q : Exit → Act → World → Prop} (w : World) (s x : Operand)
    (ho : o.op = .call { callee := .builtin .append, args := #[s, x], argTypes := #[22, 22] })
    (B : Nat) (v : Value) (l : List Fil) (hs : a.eval s = v) (hown : OwnF B w v l) (g : Nat) (hx : a.eval x = .slice (some ⟨g, 0, none⟩) 1 1)
    (f : Fil) (hc : w.heap[g]? = some (.cells (rowArr 35 (filV f)) 41 (0, 0))) (hB : B ≤ w.heap.size) (hlen : l.length ≤ 1000000)
    (h : ∀ v' w', Hid (OwnF B w' v' (l ++ [f])) → Hid (w.grownBy w' v.ownBlock) → Hid (v'.ownBlock = v.ownBlock ∨ v'.ownBlock = some w.heap.size) → K (a.put o.dst v') w') : o.wp Tryd.prog a w K Q := by
  obtain ⟨i0, z, hi, hz0, hzs, hz1, hz2⟩ := infoFil_q
  have hn : ∀ j u, (encF [f])[j]? = some u → w.cell? ((⟨g, 0, none⟩ : Addr).add j) = some u := fun j u hj => by
    rw [addr_add, Nat.zero_add, cell_of_block hc]
    have e : encF [f] = oneF f := by simp [encF]
    rw [e] at hj
    have hjl : j < 35 := by
      have := (List.getElem?_eq_some_iff.1 hj).1
      rw [oneF_len] at this
      exact this
    rw [← hj, oneF_get f hjl]
    simp [rowArr, hjl]
  obtain ⟨v', w', hr, k1, k2, _, k5⟩ := run_append_own_at (P := Tryd.prog) w B 22 o.type 41 i0 z 35 64 Tryd.underlying22 hi hz0 hz1 hz2 hzs (by decide) v l.length _ hown ⟨g, 0, none⟩ 1 1 (encF [f]) (by rw [encF_len]; rfl) hn (encF_one [f]) (by unfold maxLen; omega) (by omega) hB
  unfold Oper.wp execOp
  simp only [ho, resolve, invoke, builtin, Sem.run_bind, Sem.run_pure, Result.andThen_ok, List.map_toArray, List.map_cons, List.map_nil, hs, hx, hr]
  refine h _ _ ?_ k2 k5
  show OwnF B w' v' (l ++ [f])
  unfold OwnF
  rw [List.length_append, encF_app]
  exact k1
theorem op_push_s {o : Oper} {a : Act} {K : Act → World → Prop} {Q : Exit → Act → World → Prop} (w : World) (s x : Operand)
    (ho : o.op = .call { callee := .builtin .append, args := #[s, x], argTypes := #[23, 23] })
    (B : Nat) (v : Value) (l : List Sm) (hs : a.eval s = v) (hown : OwnS B w v l) (qa : Option Addr) (c : Nat) (G : List Sm) (hx : a.eval x = .slice qa G.length c)
    (hG : Sms w qa c G) (hB : B ≤ w.heap.size) (hlen : l.length ≤ 1000000) (hlm : G.length ≤ 1000000)
    (h : ∀ v' w', Hid (OwnS B w' v' (l ++ G)) → Hid (Fr (fun b => v.ownBlock = some b) w w') → Hid (∀ b, v'.ownBlock = some b → v.ownBlock = some b ∨ w.heap.size ≤ b) → K (a.put o.dst v') w') : o.wp Tryd.prog a w K Q := by
  obtain ⟨i0, z, hi, hz0, hzs, hz1, hz2⟩ := infoS_q
  cases qa with
  | none =>
    have e0 : G = [] := by
      rcases hG.here with h | ⟨b, off, h, _⟩
      · exact h
      · cases h
    subst e0
    have hr : (Builtin.append_ #[23, 23] o.type #[v, .slice none 0 c]).run Tryd.prog w = .ok v w := by
      rcases hown.2 with ⟨rfl, h2⟩ | ⟨g, cap, cur, rfl, _, _, hnc, _⟩
      · simp [Builtin.append_, run_underlying Tryd.underlying23, sizeOf, typeInfo, hi, Builtin.lenOf, Builtin.firstCells]
      · simp [Builtin.append_, run_underlying Tryd.underlying23, sizeOf, typeInfo, hi, Builtin.lenOf, Builtin.firstCells, hnc, storeCells]
    unfold Oper.wp execOp
    simp only [ho, resolve, invoke, builtin, Sem.run_bind, Sem.run_pure, Result.andThen_ok, List.map_toArray, List.map_cons, List.map_nil, hs, hx, List.length_nil, hr]
    refine h _ _ ?_ (Fr.refl _ _) (fun b hb => .inl hb)
    show OwnS B w v (l ++ [])
    rw [List.append_nil]; exact hown
  | some ad =>
    obtain ⟨v', w', hr, k1, k2, _, k5⟩ := run_append_own_at (P := Tryd.prog) w B 23 o.type 57 i0 z 34 48 Tryd.underlying23 hi hz0 hz1 hz2 hzs (by decide) v l.length _ hown ad G.length c (encS G) (by rw [encS_len]) hG.enc (encS_one G) (by unfold maxLen; omega) (by omega) hB
    unfold Oper.wp execOp
    simp only [ho, resolve, invoke, builtin, Sem.run_bind, Sem.run_pure, Result.andThen_ok, List.map_toArray, List.map_cons, List.map_nil, hs, hx, hr]
    refine h _ _ ?_ (Fr.of_grown k2 fun b hb => hb) (fun b hb => ?_)
    · show OwnS B w' v' (l ++ G)
      unfold OwnS
      rw [List.length_append, encS_app]
      exact k1
    · rcases k5 with e | e
      · exact .inl (e ▸ hb)
      · rw [e] at hb
        exact .inr (by have := Option.some.inj hb; omega)
theorem pigeon : ∀ (n : Nat) (l : List Nat), l.Nodup → (∀ x ∈ l, x < n) → l.length ≤ n
  | 0, l, _, h => by
    cases l with
    | nil => exact Nat.le_refl _
    | cons x l => have := h x (by simp); omega
  | n + 1, l, hn, h => by
    by_cases hm : n ∈ l
    · have h1 := pigeon n (l.erase n) (hn.erase n) (fun x hx => by
        obtain ⟨h2, h3⟩ := (hn.mem_erase_iff).1 hx
        have := h x h3
        omega)
      rw [List.length_erase_of_mem hm] at h1
      omega
    · have h1 := pigeon n l hn (fun x hx => by
        have h2 := h x hx
        have h3 : x ≠ n := fun e => hm (e ▸ hx)
        omega)
      omega
end Go.Proofs.YtechekkojinkmaaDoor
end

section
namespace Go.Proofs.YtechekkojinkmaaDoor
open Go.ChangeShapes Go.WideShapes Go.ChangeAt Go.RowKit Go.Joins
set_option linter.unusedVariables false

theorem body_isByte {p : Pk} (hi : PkIn p) : IsByte (pkBody p) := by
  have hu : ∀ z : Int, u8N z < 256 := u8N_lt
  unfold pkBody
  split
  · unfold mainN
    intro x hx
    simp only [List.mem_append, List.mem_singleton] at hx
    rcases hx with (hx | hx) | hx
    · exact wideN_byte _ _ x hx
    · rw [hx]; exact hu _
    · exact wideN_byte _ _ x hx
  · split
    · unfold fileN
      intro x hx
      simp only [List.mem_append, List.mem_cons, List.not_mem_nil, or_false] at hx
      rcases hx with (((hx | hx) | hx) | hx) | hx
      · rcases hx with hx | hx <;> rw [hx] <;> exact hu _
      · exact hi.file.byte x hx
      · exact wideN_byte _ _ x hx
      · exact hi.file.dgb x hx
      · exact wideN_byte _ _ x hx
    · split
      · unfold sumsN
        intro x hx
        simp only [List.mem_append, List.mem_singleton, List.mem_flatten, List.mem_map] at hx
        rcases hx with (hx | hx) | ⟨y, ⟨z, hz, rfl⟩, hx⟩
        · rw [hx]; exact hu _
        · exact wideN_byte _ _ x hx
        · unfold sumN at hx
          simp only [List.mem_append] at hx
          rcases hx with (hx | hx) | hx
          · exact wideN_byte _ _ x hx
          · exact wideN_byte _ _ x hx
          · exact (hi.sums z hz).2.2.2 x hx
      · unfold symbolN
        intro x hx
        simp only [List.mem_append] at hx
        rcases hx with hx | hx
        · exact wideN_byte _ _ x hx
        · exact hi.data x hx

/-! Rows whose elements are one cell each. -/

def Own1 (e : TypeId) (B : Nat) (w : World) (v : Value) (xs : List Value) : Prop := w.ownsRow B e 1 v xs.length xs
theorem Own1.at {e : TypeId} {B : Nat} {w : World} {v : Value} {xs : List Value} (h : Own1 e B w v xs) {b : Nat} (hb : v.ownBlock = some b) : B ≤ b ∧ b < w.heap.size := by
  rcases h.2 with ⟨rfl, _⟩ | ⟨g, cap, cur, rfl, hB, hh, _⟩
  · simp [Value.ownBlock] at hb
  · have : g = b := by simpa [Value.ownBlock] using hb
    subst this
    exact ⟨hB, (Array.getElem?_eq_some_iff.1 hh).1⟩
theorem Own1.fr {e : TypeId} {B : Nat} {w w' : World} {v : Value} {xs : List Value} {X : Nat → Prop} (h : Own1 e B w v xs) (k : Fr X w w') (hX : ∀ b, v.ownBlock = some b → ¬ X b) : Own1 e B w' v xs := by
  refine ⟨h.1, ?_⟩
  rcases h.2 with h0 | ⟨g, cap, cur, e, hB, hh, r⟩
  · exact .inl h0
  · exact .inr ⟨g, cap, cur, e, hB, (k.block g (Array.getElem?_eq_some_iff.1 hh).1 (hX g (by rw [e]; rfl))).trans hh, r⟩
theorem Own1.kind {e : TypeId} {B : Nat} {w : World} {v : Value} {xs : List Value} (h : Own1 e B w v xs) {b : Nat} (hb : v.ownBlock = some b) : ∃ cs, w.heap[b]? = some (.cells cs e (0, 0)) := by
  rcases h.2 with ⟨rfl, _⟩ | ⟨g, cap, cur, rfl, hB, hh, _⟩
  · simp [Value.ownBlock] at hb
  · have : g = b := by simpa [Value.ownBlock] using hb
    subst this
    exact ⟨_, hh⟩
theorem Own1.slice {e : TypeId} {B : Nat} {w : World} {v : Value} {xs : List Value} (h : Own1 e B w v xs) : ∃ a c, v = .slice a xs.length c ∧ xs.length ≤ c ∧ c ≤ maxLen := by
  rcases h.2 with ⟨h1, h2⟩ | ⟨g, cap, cur, h1, h2, h3, h4, h5, h6, h7⟩
  · exact ⟨none, 0, by rw [h1, h2], by omega, by unfold maxLen; omega⟩
  · exact ⟨_, cap, h1, h4, h5⟩
theorem Own1.cell {e : TypeId} {B : Nat} {w : World} {a : Option Addr} {c : Nat} {xs : List Value} (h : Own1 e B w (.slice a xs.length c) xs) {i : Nat} (hi : i < xs.length) :
    ∃ g, a = some ⟨g, 0, none⟩ ∧ g < w.heap.size ∧ w.cell? ⟨g, i, none⟩ = some xs[i] := by
  rcases h.2 with ⟨h1, h2⟩ | ⟨g, cap, cur, h1, h2, h3, h4, h5, h6, h7⟩
  · omega
  · injection h1 with e1 e2 e3
    refine ⟨g, e1, (Array.getElem?_eq_some_iff.1 h3).1, ?_⟩
    rw [cell_of_block h3, ← List.getElem?_eq_getElem hi, ← h7, List.getElem?_take_of_lt (by omega)]
    simp
theorem OwnB.kind {w : World} {v : Value} {l : List Nat} (h : OwnB w v l) {b : Nat} (hb : v.ownBlock = some b) : ∃ cs, w.heap[b]? = some (.cells cs 5 (0, 0)) := by
  rcases h.2 with ⟨rfl, _⟩ | ⟨g, cap, cur, rfl, hB, hh, _⟩
  · simp [Value.ownBlock] at hb
  · have : g = b := by simpa [Value.ownBlock] using hb
    subst this
    exact ⟨_, hh⟩
theorem run_push_1 (w : World) (ty t e : TypeId) {z : Value} {bytes : Nat} (hu : Tryd.prog.underlying t = some (.slice e)) (hinf : (Tryd.prog.info? e).map (fun i => (i.zero, i.size, i.bytes)) = some (some z, 1, bytes)) (hzs : z.cells.size = 1) (hby : bytes ≤ 1000)
    (B : Nat) (v : Value) (xs : List Value) (hown : Own1 e B w v xs) (g m : Nat) (ys : List Value) (hm : ys.length = m) (hc : w.heap[g]? = some (.cells ys.toArray e (0, 0))) (h1 : ∀ u ∈ ys, u.oneCell' = true) (hB : B ≤ w.heap.size) (hlen : xs.length ≤ 1000000) (hlm : m ≤ 1000000) :
    ∃ v' w', (Builtin.append_ #[t, t] ty #[v, .slice (some ⟨g, 0, none⟩) m m]).run Tryd.prog w = .ok v' w' ∧ Own1 e B w' v' (xs ++ ys) ∧ w.grownBy w' v.ownBlock ∧ (v'.ownBlock = v.ownBlock ∨ v'.ownBlock = some w.heap.size) := by
  obtain ⟨i0, hi, hz0, hz1, hz2⟩ := info_parts hinf
  have hn : ∀ j u, ys[j]? = some u → w.cell? ((⟨g, 0, none⟩ : Addr).add j) = some u := fun j u hj => by
    rw [addr_add, Nat.zero_add, cell_of_block hc]
    simpa using hj
  have hb2 : (xs.length + m) * bytes ≤ 2000000 * 1000 := Nat.mul_le_mul (by omega) hby
  obtain ⟨v', w', hr, k1, k2, _, k5⟩ := run_append_own_at (P := Tryd.prog) w B t ty e i0 z 1 bytes hu hi hz0 hz1 hz2 hzs (by decide) v xs.length xs hown ⟨g, 0, none⟩ m m ys (by rw [hm]; omega) hn h1 (by unfold maxLen; omega) (by omega) hB
  refine ⟨v', w', hr, ?_, k2, k5⟩
  unfold Own1
  rw [List.length_append, hm]
  exact k1
theorem op_push_1 {o : Oper} {a : Act} {K : Act → World → Prop} {Q : Exit → Act → World → Prop} (w : World) (s x : Operand) (t e : TypeId) {z : Value} {bytes : Nat} (ho : o.op = .call { callee := .builtin .append, args := #[s, x], argTypes := #[t, t] })
    (hu : Tryd.prog.underlying t = some (.slice e)) (hinf : (Tryd.prog.info? e).map (fun i => (i.zero, i.size, i.bytes)) = some (some z, 1, bytes)) (hzs : z.cells.size = 1) (hby : bytes ≤ 1000)
    (B : Nat) (v : Value) (xs : List Value) (hs : a.eval s = v) (hown : Own1 e B w v xs) (g m : Nat) (hx : a.eval x = .slice (some ⟨g, 0, none⟩) m m) (ys : List Value) (hm : ys.length = m) (hc : w.heap[g]? = some (.cells ys.toArray e (0, 0))) (h1 : ∀ u ∈ ys, u.oneCell' = true) (hB : B ≤ w.heap.size) (hlen : xs.length ≤ 1000000) (hlm : m ≤ 1000000)
    (h : ∀ v' w', Hid (Own1 e B w' v' (xs ++ ys)) → Hid (w.grownBy w' v.ownBlock) → Hid (v'.ownBlock = v.ownBlock ∨ v'.ownBlock = some w.heap.size) → K (a.put o.dst v') w') : o.wp Tryd.prog a w K Q := by
  obtain ⟨v', w', hr, k1, k2, k3⟩ := run_push_1 w o.type t e hu hinf hzs hby B v xs hown g m ys hm hc h1 hB hlen hlm
  unfold Oper.wp execOp
  simp only [ho, resolve, invoke, builtin, Sem.run_bind, Sem.run_pure, Result.andThen_ok, List.map_toArray, List.map_cons, List.map_nil, hs, hx, hr]
  exact h _ _ k1 k2 k3
theorem wpList_push_1 {ops : Array Oper} {rest : List Oper} {o : Oper} {a : Act} {Q : Exit → Act → World → Prop} (w : World) (hgd : o.guard = none) (s x : Operand) (t e : TypeId) {z : Value} {bytes : Nat} (ho : o.op = .call { callee := .builtin .append, args := #[s, x], argTypes := #[t, t] })
    (hu : Tryd.prog.underlying t = some (.slice e)) (hinf : (Tryd.prog.info? e).map (fun i => (i.zero, i.size, i.bytes)) = some (some z, 1, bytes)) (hzs : z.cells.size = 1) (hby : bytes ≤ 1000)
    (B : Nat) (v : Value) (xs : List Value) (hs : a.eval s = v) (hown : Own1 e B w v xs) (g m : Nat) (hx : a.eval x = .slice (some ⟨g, 0, none⟩) m m) (ys : List Value) (hm : ys.length = m) (hc : w.heap[g]? = some (.cells ys.toArray e (0, 0))) (h1 : ∀ u ∈ ys, u.oneCell' = true) (hB : B ≤ w.heap.size) (hlen : xs.length ≤ 1000000) (hlm : m ≤ 1000000)
    (h : ∀ v' w', Hid (Own1 e B w' v' (xs ++ ys)) → Hid (w.grownBy w' v.ownBlock) → Hid (v'.ownBlock = v.ownBlock ∨ v'.ownBlock = some w.heap.size) → wpList Tryd.prog ops Q rest (a.put o.dst v') w') : wpList Tryd.prog ops Q (o :: rest) a w :=
  wpList_plain hgd fun K hK => op_push_1 w s x t e ho hu hinf hzs hby B v xs hs hown g m hx ys hm hc h1 hB hlen hlm fun v' w' a1 a2 a3 => hK _ _ (h v' w' a1 a2 a3)
theorem infoInt : (Tryd.prog.info? 3).map (fun i => (i.zero, i.size, i.bytes)) = some (some (.int .i64 0), 1, 8) := by kernel_rfl
theorem infoBs : (Tryd.prog.info? 36).map (fun i => (i.zero, i.size, i.bytes)) = some (some (.slice none 0 0), 1, 24) := by kernel_rfl

/-- A body that is made, and its value. -/
structure Bw where
  v : Value
  l : List Nat
structure BoSt (w0 wr : World) (kv bv : Value) (K : List Int) (F : List Bw) : Prop where
  ko : Own1 3 w0.heap.size wr kv (K.map (Value.int .i64))
  bo : Own1 36 w0.heap.size wr bv (F.map (·.v))
  below : Below w0.heap.size w0 wr
  bods : ∀ b ∈ F, OwnB wr b.v b.l ∧ IsByte b.l
theorem BoSt.later {w0 wr w' : World} {kv bv : Value} {K : List Int} {F : List Bw} (h : BoSt w0 wr kv bv K F) (k : Below wr.heap.size wr w') : BoSt w0 w' kv bv K F :=
  ⟨h.ko.fr (X := fun _ => False) (Fr.of_below k) (fun _ _ h => h), h.bo.fr (X := fun _ => False) (Fr.of_below k) (fun _ _ h => h), h.below.trans (k.mono h.below.size), fun b hb => ⟨(h.bods b hb).1.fr (X := fun _ => False) (Fr.of_below k) (fun _ _ h => h), (h.bods b hb).2⟩⟩
theorem kinds_ne {w : World} {b : Nat} {cs cs' : Array Value} {e e' : TypeId} (h1 : w.heap[b]? = some (.cells cs e (0, 0))) (h2 : w.heap[b]? = some (.cells cs' e' (0, 0))) (hne : e ≠ e') : False := by
  rw [h1] at h2
  simp at h2
  exact hne h2.2
theorem BoSt.kinds {w0 wr w' : World} {kv bv kv' : Value} {K G : List Int} {F : List Bw} (h : BoSt w0 wr kv bv K F) (o : Own1 3 w0.heap.size w' kv' ((K.map (Value.int .i64)) ++ G.map (Value.int .i64))) (k : wr.grownBy w' kv.ownBlock) : BoSt w0 w' kv' bv (K ++ G) F := by
  have hf : Fr (fun b => kv.ownBlock = some b) wr w' := Fr.of_grown k fun b hb => hb
  refine ⟨by rw [List.map_append]; exact o, h.bo.fr hf fun b hb hX => ?_, h.below.trans (hf.below h.below.size fun j hj hX => by have := (h.ko.at hX).1; omega), fun b hb => ⟨(h.bods b hb).1.fr hf fun j hj hX => ?_, (h.bods b hb).2⟩⟩
  · obtain ⟨_, c1⟩ := h.bo.kind hb
    obtain ⟨_, c2⟩ := h.ko.kind hX
    exact kinds_ne c1 c2 (by decide)
  · obtain ⟨_, c1⟩ := (h.bods b hb).1.kind hj
    obtain ⟨_, c2⟩ := h.ko.kind hX
    exact kinds_ne c1 c2 (by decide)
theorem BoSt.more {w0 wr w' : World} {kv bv bv' : Value} {K : List Int} {F G : List Bw} (h : BoSt w0 wr kv bv K F) (hG : ∀ b ∈ G, OwnB wr b.v b.l ∧ IsByte b.l) (o : Own1 36 w0.heap.size w' bv' (F.map (·.v) ++ G.map (·.v))) (k : wr.grownBy w' bv.ownBlock) : BoSt w0 w' kv bv' K (F ++ G) := by
  have hf : Fr (fun b => bv.ownBlock = some b) wr w' := Fr.of_grown k fun b hb => hb
  have hall : ∀ b ∈ F ++ G, OwnB wr b.v b.l ∧ IsByte b.l := fun b hb => by
    rcases List.mem_append.1 hb with h1 | h1
    · exact h.bods b h1
    · exact hG b h1
  refine ⟨h.ko.fr hf fun b hb hX => ?_, by rw [List.map_append]; exact o, h.below.trans (hf.below h.below.size fun j hj hX => by have := (h.bo.at hX).1; omega), fun b hb => ⟨(hall b hb).1.fr hf fun j hj hX => ?_, (hall b hb).2⟩⟩
  · obtain ⟨_, c1⟩ := h.ko.kind hb
    obtain ⟨_, c2⟩ := h.bo.kind hX
    exact kinds_ne c1 c2 (by decide)
  · obtain ⟨_, c1⟩ := (hall b hb).1.kind hj
    obtain ⟨_, c2⟩ := h.bo.kind hX
    exact kinds_ne c1 c2 (by decide)
end Go.Proofs.YtechekkojinkmaaDoor
end
