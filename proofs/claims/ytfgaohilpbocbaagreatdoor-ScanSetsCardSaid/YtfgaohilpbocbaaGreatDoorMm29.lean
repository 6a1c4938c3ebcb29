/-
  Names in order: what compares two of them; slices.SortFunc over them.
  slices.SortedFunc over a map's names: each once, in order.
  SETS: all sets of which the whole directory is in the files.
  The frame of a law that lists variables, with the shape of the world, and how large what came in can be, handed on to the walk.
-/
import Derived.Test.YtfgaohilpbocbaaGreatDoorMm28
import Derived.Shelf.SlSortCmp.WholeK
import Derived.Shelf.SlSortCmp.NoneTotal
import Derived.Shelf.SlSortCmp.QuietGrown
import Derived.Lib.Bytealg
import Derived.Lib.BytesEntry
import Derived.Laws.Externs
import Derived.BigQuiet
import Derived.Test.YtfgaohilpbocbaaGreatDoorRows
import Derived.Handed
import Derived.JoinedTies
import Derived.SizedLaws
section
namespace Go.Proofs.YtfgaohilpbocbaaGreatDoor
open Go.ChangeShapes Go.WideShapes Go.ChangeAt Go.RowKit Go.Joins Go.MapKept
set_option linter.unusedVariables false

/-! The order of bytes. -/

theorem cmpB_lt : ∀ a b : List UInt8, Lib.compareBytes a b < 0 ↔ Op.bytesLess a b = true
  | [], [] => by simp [Lib.compareBytes, Op.bytesLess]
  | [], _ :: _ => by simp [Lib.compareBytes, Op.bytesLess]
  | _ :: _, [] => by simp [Lib.compareBytes, Op.bytesLess]
  | a :: x, b :: y => by
    have ih := cmpB_lt x y
    unfold Lib.compareBytes Op.bytesLess
    by_cases h1 : a < b
    · simp [h1]
    · by_cases h2 : b < a
      · have hne : ¬ a = b := fun e => by rw [e] at h2; exact absurd h2 (UInt8.lt_irrefl _)
        simp [h1, h2, hne]
      · have he : a = b := UInt8.le_antisymm (UInt8.not_lt.1 h2) (UInt8.not_lt.1 h1)
        subst he
        simp [h1, ih]
theorem less_irrefl : ∀ a : List UInt8, Op.bytesLess a a = false
  | [] => rfl
  | a :: x => by
    unfold Op.bytesLess
    simp [UInt8.lt_irrefl, less_irrefl x]
theorem less_cons {a b : UInt8} {x y : List UInt8} : Op.bytesLess (a :: x) (b :: y) = true ↔ a.toNat < b.toNat ∨ (a.toNat = b.toNat ∧ Op.bytesLess x y = true) := by
  have e : Op.bytesLess (a :: x) (b :: y) = (decide (a < b) || (a == b && Op.bytesLess x y)) := rfl
  rw [e]
  simp only [Bool.or_eq_true, decide_eq_true_eq, Bool.and_eq_true, beq_iff_eq, UInt8.lt_iff_toNat_lt, ← UInt8.toNat_inj]
theorem less_trans : ∀ a b c : List UInt8, Op.bytesLess a b = true → Op.bytesLess b c = true → Op.bytesLess a c = true
  | _, b, [], _, h => by cases b <;> simp [Op.bytesLess] at h
  | [], _, _ :: _, _, _ => rfl
  | _ :: _, [], _ :: _, h, _ => by simp [Op.bytesLess] at h
  | a :: x, b :: y, c :: z, h1, h2 => by
    rw [less_cons] at h1 h2 ⊢
    rcases h1 with h1 | ⟨h1, h3⟩ <;> rcases h2 with h2 | ⟨h2, h4⟩
    · exact .inl (by omega)
    · exact .inl (by omega)
    · exact .inl (by omega)
    · exact .inr ⟨by omega, less_trans x y z h3 h4⟩
theorem less_total : ∀ a b : List UInt8, Op.bytesLess a b = true ∨ a = b ∨ Op.bytesLess b a = true
  | [], [] => .inr (.inl rfl)
  | [], _ :: _ => .inl rfl
  | _ :: _, [] => .inr (.inr rfl)
  | a :: x, b :: y => by
    rw [less_cons, less_cons]
    rcases less_total x y with h | h | h
    · rcases Nat.lt_trichotomy a.toNat b.toNat with h1 | h1 | h1
      · exact .inl (.inl h1)
      · exact .inl (.inr ⟨h1, h⟩)
      · exact .inr (.inr (.inl h1))
    · rcases Nat.lt_trichotomy a.toNat b.toNat with h1 | h1 | h1
      · exact .inl (.inl h1)
      · exact .inr (.inl (by rw [h, UInt8.toNat_inj.1 h1]))
      · exact .inr (.inr (.inl h1))
    · rcases Nat.lt_trichotomy a.toNat b.toNat with h1 | h1 | h1
      · exact .inl (.inl h1)
      · exact .inr (.inr (.inr ⟨h1.symm, h⟩))
      · exact .inr (.inr (.inl h1))
theorem less_ntrans (a b c : List UInt8) (h1 : Op.bytesLess a b = false) (h2 : Op.bytesLess b c = false) : Op.bytesLess a c = false := by
  cases h : Op.bytesLess a c with
  | false => rfl
  | true =>
    rcases less_total a b with h3 | h3 | h3
    · rw [h3] at h1; cases h1
    · rw [h3] at h; rw [h] at h2; cases h2
    · have := less_trans b a c h3 h
      rw [this] at h2; cases h2
def bytesL (l : List Nat) : List UInt8 := (strOf l).data.toList
def cmpN (x y : List Nat) : Int := Lib.compareBytes (bytesL x) (bytesL y)
abbrev N8 := { l : List Nat // NmOk l }
instance : Inhabited N8 := ⟨⟨[0, 0, 0, 0, 0, 0, 0, 0], rfl, fun x hx => by simp at hx; omega⟩⟩
def cf8 (x y : N8) : Int := cmpN x.1 y.1
theorem swo8 : Sort.SWO (Go.Proofs.ltOf cf8) := by
  have e : ∀ x y : N8, Go.Proofs.ltOf cf8 x y = Op.bytesLess (bytesL x.1) (bytesL y.1) := fun x y => by
    unfold Go.Proofs.ltOf cf8 cmpN
    rw [Bool.eq_iff_iff, decide_eq_true_eq]
    exact cmpB_lt _ _
  refine ⟨fun x => ?_, fun x y z h1 h2 => ?_, fun x y z h1 h2 => ?_⟩
  · rw [e]; exact less_irrefl _
  · rw [e] at *; exact less_trans _ _ _ h1 h2
  · rw [e] at *; exact less_ntrans _ _ _ h1 h2

/-! What compares two names. -/

theorem run_bytesOf_sl (w : World) (a : Option Addr) (c : Nat) (l : List Nat) (h : Sl w a c l) (h0 : l ≠ []) : (Extern.Bytes.bytesOf (.slice a l.length c)).run Tryz.prog w = .ok (strOf l) w := by
  rcases h.here with e | ⟨b, off, rfl, hb⟩
  · exact absurd e h0
  · have := Lib.run_loadBytesX (P := Tryz.prog) w (l.map fun (n : Nat) => (n : Int)) ⟨b, off, none⟩ .empty fun j x hj => by
      rw [List.getElem?_map] at hj
      cases hl : l[j]? with
      | none => rw [hl] at hj; cases hj
      | some n =>
        rw [hl] at hj
        cases hj
        obtain ⟨hjl, rfl⟩ := List.getElem?_eq_some_iff.1 hl
        rw [addr_add]
        exact hb j hjl
    rw [List.length_map] at this
    refine (show (Extern.Bytes.bytesOf (.slice (some ⟨b, off, none⟩) l.length c)).run Tryz.prog w = (Extern.Bytes.loadBytes ⟨b, off, none⟩ l.length .empty).run Tryz.prog w from rfl).trans (this.trans ?_)
    have e : ByteArray.empty.data = #[] := rfl
    rw [e, Array.empty_append]
    rfl
theorem cmpE_any (w : World) (a b : Option Addr) (c d : Nat) (x y : List Nat) (hx : Sl w a c x) (hy : Sl w b d y) (h0 : x ≠ []) (h1 : y ≠ []) :
    (callFunc 119 #[.slice a x.length c, .slice b y.length d]).run Tryz.prog w = .ok (.value (.int .i64 (cmpN x y))) w := by
  rw [run_callFunc_extern Tryz.func119 (by kernel_rfl) (by kernel_rfl) (by kernel_rfl) (e := Extern.BytealgCompare.compare) (by kernel_rfl)]
  have : (Extern.BytealgCompare.compare #[.slice a x.length c, .slice b y.length d]).run Tryz.prog w = .ok (.int .i64 (cmpN x y)) w := by
    have e : Extern.BytealgCompare.compare #[.slice a x.length c, .slice b y.length d] = (do pure (goInt (Extern.BytealgCompare.cmp (← Extern.Bytes.bytesOf (.slice a x.length c)) (← Extern.Bytes.bytesOf (.slice b y.length d))))) := rfl
    rw [e]
    simp only [Sem.run_bind, run_bytesOf_sl w a c x hx h0, run_bytesOf_sl w b d y hy h1, Result.andThen_ok, Sem.run_pure, Lib.cmp_eq]
    rfl
  rw [this]
  rfl
set_option maxHeartbeats 1000000 in
theorem compare_any (w : World) (a b : Option Addr) (c d n m : Nat) (x y : List Nat) (hx : Sl w a c x) (hy : Sl w b d y) (hn : x.length = n) (hm : y.length = m) (h0 : x ≠ []) (h1 : y ≠ []) :
    Calls Tryz.prog 83 #[.slice a n c, .slice b m d] w fun e w' => e = .returned (.int .i64 (cmpN x y)) ∧ w' = w := by
  subst hn hm
  have hc := cmpE_any w a b c d x y hx hy h0 h1
  go_enter Tryz.func83, Tryz.ntmps83
  go_wp2
  go_ret
  exact ⟨rfl, rfl⟩
theorem grown_two (w : World) (c d : Obj) (n : Nat) (os : Array Obj) : ∃ os', Sort.grow (((w.alloc c).alloc d).drewN n) os = Sort.grow (w.drewN n) os' := by
  refine ⟨#[c, d] ++ os, ?_⟩
  rw [Sort.alloc_eq_grow, Sort.alloc_eq_grow, Sort.grow_grow]
  show Sort.grow (Sort.grow (w.drewN n) (#[c] ++ #[d])) os = _
  rw [Sort.grow_grow]
  rfl
set_option maxRecDepth 100000 in
set_option maxHeartbeats 4000000 in
theorem rising_any (x y : List Nat) (hx : NmOk x) (hy : NmOk y) (w : World) :
    Calls Tryz.prog 43 #[.agg (rowArr 8 (vOf x)), .agg (rowArr 8 (vOf y))] w fun e w' => e = .returned (.int .i64 (cmpN x y)) ∧ ∃ q os, w' = Sort.grow (w.drewN q) os := by
  have mixed : Tryz.prog.follows .mixedOrders = true := by kernel_rfl
  obtain ⟨AX, hAX⟩ : ∃ AX, AX = rowArr 8 (vOf x) := ⟨_, rfl⟩
  obtain ⟨AY, hAY⟩ : ∃ AY, AY = rowArr 8 (vOf y) := ⟨_, rfl⟩
  rw [← hAX, ← hAY]
  have h1 : (w.alloc (.cells AX 64)).heap[w.heap.size]? = some (.cells AX 64 (0, 0)) := heap_alloc_last w _
  have h2 : ((w.alloc (.cells AX 64)).alloc (.cells AY 64)).heap[w.heap.size + 1]? = some (.cells AY 64 (0, 0)) := by
    have e : (w.alloc (.cells AX 64)).heap.size = w.heap.size + 1 := by simp
    rw [← e]; exact heap_alloc_last _ _
  have h3 : ((w.alloc (.cells AX 64)).alloc (.cells AY 64)).heap[w.heap.size]? = some (.cells AX 64 (0, 0)) := by
    have hb : Below _ _ ((w.alloc (.cells AX 64)).alloc (.cells AY 64)) := (Below.refl (w.alloc (.cells AX 64)).heap.size _).alloc (Nat.le_refl _) _
    exact (hb.block _ (Array.getElem?_eq_some_iff.1 h1).1).trans h1
  have sl : ∀ (W : World) (g : Nat) (l : List Nat) (A : Array Value), A = rowArr 8 (vOf l) → NmOk l → W.heap[g]? = some (.cells A 64 (0, 0)) → Sl W (some ⟨g, 0, none⟩) 8 l := fun W g l A hA hl hg => by
    refine ⟨hl.2, by rw [hl.1]; exact Nat.le_refl _, by unfold maxLen; omega, fun e => (by cases e), .inr ⟨g, 0, rfl, fun i hi => ?_⟩⟩
    rw [cell_of_block hg, Nat.zero_add, hA]
    have hi8 : i < 8 := by have := hl.1; omega
    simp [rowArr, hi8]
    exact vOf_eq l i hi
  obtain ⟨w2, hw2⟩ : ∃ w2, w2 = (w.alloc (.cells AX 64)).alloc (.cells AY 64) := ⟨_, rfl⟩
  rw [← hw2] at h2 h3
  have hcp : ∀ n os, Calls Tryz.prog 83 #[.slice (some ⟨w.heap.size, 0, none⟩) 8 8, .slice (some ⟨w.heap.size + 1, 0, none⟩) 8 8] (Sort.grow (w2.drewN n) os) fun e w'' => e = .returned (.int .i64 (cmpN x y)) ∧ ∃ p : GrownBy, w'' = Sort.grow (w2.drewN p.n) p.os := fun n os => by
    have hb : Below w2.heap.size w2 (Sort.grow (w2.drewN n) os) := below_regrown w2 (w2.drewN n).drawn os
    refine (compare_any _ _ _ 8 8 8 8 x y ((sl _ _ x AX hAX hx h3).below hb) ((sl _ _ y AY hAY hy h2).below hb) hx.1 hy.1 (fun e => by have := hx.1; rw [e] at this; cases this) (fun e => by have := hy.1; rw [e] at this; cases this)).mono ?_
    rintro e w' ⟨rfl, rfl⟩
    exact ⟨rfl, ⟨n, os⟩, rfl⟩
  have HW2 := Lib.hid hw2
  clear h1 h2 h3 sl hAX hAY hw2
  go_enter Tryz.func43, Tryz.ntmps43
  go_upto_region 1 with fail
  change Code.wp _ _ _ _ ((w.alloc (.cells AX 64)).alloc (.cells AY 64))
  rw [← HW2.out]
  refine wp_region_quiet_grown mixed (by kernel_rfl) ?_
  repeat (quiet_step (exact hcp _ _))
  refine wpQuiet_nil ?_
  intro _ hw'
  obtain ⟨⟨nq, osq⟩, hw''⟩ := hw'
  subst hw''
  go_wp2_with fail
  go_ret
  obtain ⟨os', h⟩ := grown_two w (.cells AX 64) (.cells AY 64) nq osq
  exact ⟨rfl, nq, os', by rw [HW2.out]; exact h⟩
end Go.Proofs.YtfgaohilpbocbaaGreatDoor
end

section
namespace Go.Proofs.YtfgaohilpbocbaaGreatDoor
open Go.ChangeShapes Go.WideShapes Go.ChangeAt Go.RowKit Go.Joins Go.MapKept
set_option linter.unusedVariables false

/-- A slice of names that is read. -/
structure N8Sl (w : World) (a : Option Addr) (cap : Nat) (ys : List (List Nat)) : Prop where
  len : ys.length ≤ cap
  most : cap ≤ maxLen
  here : ys = [] ∨ ∃ g, a = some ⟨g, 0, none⟩ ∧ g < w.heap.size ∧ ∀ i (h : i < ys.length) j, j < 8 → w.cell? ⟨g, i * 8 + j, none⟩ = some (vOf ys[i] j)
theorem N8Sl.below {w w' : World} {a : Option Addr} {cap : Nat} {ys : List (List Nat)} (h : N8Sl w a cap ys) (k : Below w.heap.size w w') : N8Sl w' a cap ys :=
  ⟨h.len, h.most, h.here.imp id fun ⟨g, e, hb, hc⟩ => ⟨g, e, Nat.lt_of_lt_of_le hb k.size, fun i hi j hj => (k.cell (p := ⟨g, i * 8 + j, none⟩) hb).trans (hc i hi j hj)⟩⟩
theorem encN_get {l : List (List Nat)} : ∀ {i : Nat} (h : i < l.length) {k : Nat} (hk : k < 8), (encN l)[i * 8 + k]? = some (vOf l[i] k) := by
  induction l with
  | nil => intro i h; simp at h
  | cons x l ih =>
    intro i h k hk
    have e : encN (x :: l) = oneN x ++ encN l := rfl
    have hl := oneN_len x
    rw [e]
    cases i with
    | zero =>
      rw [List.getElem?_append_left (by omega), show 0 * 8 + k = k by omega, oneN_get x hk]
      rfl
    | succ i =>
      rw [List.getElem?_append_right (by omega), show (i + 1) * 8 + k - (oneN x).length = i * 8 + k by omega]
      exact ih (by simpa using h) hk
theorem OwnN8.slice {B : Nat} {w : World} {v : Value} {ys : List (List Nat)} (h : OwnN8 B w v ys) : ∃ a c, v = .slice a ys.length c ∧ ys.length ≤ c ∧ c ≤ maxLen := by
  rcases h.2 with ⟨h1, h2⟩ | ⟨g, cap, cur, h1, h2, h3, h4, h5, h6, h7⟩
  · exact ⟨none, 0, by rw [h1, h2], by omega, by unfold maxLen; omega⟩
  · exact ⟨_, cap, h1, h4, h5⟩
def encS8 (x : N8) : List Value := oneN x.1
theorem fr_sort (w : World) (g n : Nat) (d : Array N8) (os : Array Obj) : Fr (fun j => j = g) w (Go.Proofs.sortWorldK encS8 8 w g 0 n d os) := by
  refine ⟨rfl, rfl, rfl, ?_, fun i hi hx => ?_⟩
  · exact Go.Proofs.size_sortWorldK_c encS8 8 w g 0 n d os
  · show ((Sort.putRow id (Sort.ahead w n) g 0 (Sort.flatK encS8 8 d)).heap ++ os)[i]? = w.heap[i]?
    rw [Array.getElem?_append_left (by rw [Sort.size_putRow]; exact hi)]
    show (w.heap.modify g _)[i]? = _
    rw [Array.getElem?_modify, if_neg (fun e => hx e.symm)]
theorem bytesL_inj {x y : List Nat} (hx : NmOk x) (hy : NmOk y) (h : bytesL x = bytesL y) : x = y := by
  unfold bytesL at h
  rw [strOf_data, strOf_data] at h
  refine List.ext_getElem (by rw [hx.1, hy.1]) fun j h1 h2 => ?_
  have h3 : (x.map fun k => UInt8.ofNat k)[j]? = (y.map fun k => UInt8.ofNat k)[j]? := by rw [h]
  rw [List.getElem?_map, List.getElem?_map, List.getElem?_eq_getElem h1, List.getElem?_eq_getElem h2] at h3
  have h4 : UInt8.ofNat x[j] = UInt8.ofNat y[j] := Option.some.inj h3
  have h5 := congrArg UInt8.toNat h4
  have b1 := hx.2 _ (List.getElem_mem h1)
  have b2 := hy.2 _ (List.getElem_mem h2)
  simp only [UInt8.toNat_ofNat'] at h5
  omega
set_option maxRecDepth 100000 in
set_option maxHeartbeats 4000000 in
theorem sort8_any (B : Nat) (a : Option Addr) (cap : Nat) (ys : List (List Nat)) (w : World) (how : OwnN8 B w (.slice a ys.length cap) ys) (hok : ∀ y ∈ ys, NmOk y) (hlen : ys.length ≤ 1000) :
    Calls Tryz.prog 81 #[.slice a ys.length cap, .func (.func 43) #[] #[]] w fun e w' => e = .returned (.tuple #[]) ∧
      ∃ zs, zs.Perm ys ∧ (∀ i (h : i + 1 < zs.length), Op.bytesLess (bytesL zs[i + 1]) (bytesL zs[i]) = false) ∧ N8Sl w' a cap zs ∧ Fr (fun j => a = some ⟨j, 0, none⟩) w w' := by
  rcases how.2 with ⟨h1, h2⟩ | ⟨g, cap', cur, h1, h2, h3, h4, h5, h6, h7⟩
  · have hy : ys = [] := List.eq_nil_of_length_eq_zero h2
    subst hy
    injection h1 with e1 e2 e3
    subst e1 e3
    refine (Go.Proofs.AnyF.slices_SortFunc_none lay_sortF none 0 _ w).mono ?_
    rintro e w' ⟨rfl, rfl⟩
    exact ⟨rfl, [], List.Perm.refl _, fun i h => by simp at h, ⟨Nat.le_refl _, by unfold maxLen; omega, .inl rfl⟩, Fr.refl _ _⟩
  · injection h1 with e1 e2 e3
    subst e1 e3
    obtain ⟨d, hd⟩ : ∃ d : Array N8, d = (ys.pmap (fun y h => (⟨y, h⟩ : N8)) hok).toArray := ⟨_, rfl⟩
    have hds : d.size = ys.length := by rw [hd]; simp
    have hdl : d.toList.map (·.1) = ys := by
      rw [hd]
      simp [List.map_pmap]
    have hdg : ∀ i (h : i < ys.length), (d[i]!).1 = ys[i] := fun i h => by
      rw [getElem!_pos d i (by omega)]
      have h8 : (d.toList.map (·.1))[i]? = ys[i]? := by rw [hdl]
      rw [List.getElem?_map, Array.getElem?_toList, Array.getElem?_eq_getElem (by omega), List.getElem?_eq_getElem h] at h8
      exact Option.some.inj h8
    have hlt := (Array.getElem?_eq_some_iff.1 h3).1
    have hH : Sort.HoldsK encS8 8 w g 0 d := fun t ht => by
      rw [Sort.size_flatK, hds] at ht
      have hq : t / 8 < ys.length := by omega
      have hcur : cur[t]? = some (vOf ys[t / 8] (t % 8)) := by
        have h8 := encN_get hq (k := t % 8) (by omega)
        rw [show t / 8 * 8 + t % 8 = t by omega] at h8
        rw [← h8, ← h7, List.getElem?_take_of_lt (by omega), Array.getElem?_toList]
      refine ⟨?_, unfrozen_of_block h3 _⟩
      rw [Nat.zero_add, cell_of_block h3, hcur, Sort.get_flatK _ _ _ _ (by rw [hds]; omega)]
      show _ = some ((encS8 d[t / 8]!)[t % 8]!)
      unfold encS8
      rw [hdg _ hq]
      have h9 := oneN_get ys[t / 8] (k := t % 8) (by omega)
      rw [getElem!_def, h9]
    have hsz : d.size < 4611686018427387904 := by omega
    have hs := Go.Proofs.AnyQ.slices_SortFunc lay_sortF 8 (fun w => by kernel_rfl) (fun w => by kernel_rfl) encS8 (fun x => oneN_len x.1) (fun x v hv => encN_one [x.1] v (by simpa [encN, encS8] using hv)) cf8 swo8 43 #[] g 0 cap d w
      (enters_of Tryz.func43 (by kernel_rfl) rfl) (fun m os dk _ x y => rising_any x.1 y.1 x.2 y.2 _) hH hlt hsz
    rw [hds] at hs
    refine hs.mono ?_
    rintro e w' ⟨rfl, d', n, os, hp, hsr, rfl⟩
    obtain ⟨p1, _, p3⟩ := hp
    have hs' : d'.size = ys.length := p1.trans hds
    have hpm : d'.toList.Perm d.toList := by
      have e1 : d'.extract 0 ys.length = d' := by rw [← hs']; simp
      have e2 : d.extract 0 ys.length = d := by rw [← hds]; simp
      rw [e1, e2] at p3
      exact p3
    have hg' := Go.Proofs.holdsK_sortWorldK_c encS8 8 w g 0 d d' n os hH hlt (hs'.trans hds.symm)
    have hzl : (d'.toList.map (·.1)).length = ys.length := by simp [hs']
    have hzg : ∀ i (h : i < (d'.toList.map (·.1)).length), (d'[i]!).1 = (d'.toList.map (·.1))[i] := fun i h => by
      have h8 : i < d'.size := by simpa using h
      rw [getElem!_pos d' i h8]
      simp
    refine ⟨rfl, d'.toList.map (·.1), ?_, fun i h => ?_, ⟨by omega, h5, .inr ⟨g, rfl, ?_, fun i h j hj => ?_⟩⟩, (fr_sort w g n d' os).mono fun j _ e => by rw [e]⟩
    · have := hpm.map (·.1)
      rw [hdl] at this
      exact this
    · have h8 := hsr i (i + 1) (Nat.zero_le _) (Nat.lt_succ_self _) (by omega)
      unfold Go.Proofs.ltOf cf8 at h8
      rw [decide_eq_false_iff_not] at h8
      rw [← hzg i (by omega), ← hzg (i + 1) h]
      cases hb : Op.bytesLess (bytesL (d'[i + 1]!).1) (bytesL (d'[i]!).1) with
      | false => rfl
      | true => exact absurd ((cmpB_lt _ _).2 hb) h8
    · exact Nat.lt_of_lt_of_le hlt (Go.Proofs.size_sortWorldK_c encS8 8 w g 0 n d' os)
    · have h8 := (Sort.HoldsK.cell hg' (i := i) (c := j) (by omega) hj).1
      rw [Nat.zero_add] at h8
      rw [h8]
      unfold encS8
      rw [← hzg i h]
      have h9 := oneN_get (d'[i]!).1 (k := j) hj
      rw [getElem!_def, h9]
theorem collect8_any (Bm b W0 : Nat) (G : List Gx) (hl : G.length ≤ 1000) (w : World) (hm : w.cell? ⟨Bm, 0, none⟩ = some (.map (some b))) (hg : GrAt W0 w b G) :
    Calls Tryz.prog 80 #[.func (.func 82) #[] #[.pointer (some ⟨Bm, 0, none⟩)]] w fun e w' =>
      ∃ v ys, e = .returned v ∧ OwnN8 w.heap.size w' v ys ∧ (ys.Nodup ∧ ∀ y ∈ ys, y ∈ G.map (·.nm)) ∧ Below w.heap.size w w' := by
  have ha := appendSeq8_any Bm b W0 G hl w hm hg
  have HM := Lib.hid (And.intro hm hg)
  clear hm hg
  go_enter Tryz.func80, Tryz.ntmps80
  go_wp2_with fail
  (with_reducible refine ha.mono ?_)
  rintro e w1 ⟨v, ys, rfl, h1, h2, h3⟩
  have H := Lib.hid (And.intro h1 (And.intro h2 h3))
  clear ha h1 h2 h3
  go_wp2_with fail
  go_ret
  exact ⟨v, ys, rfl, H.out⟩
theorem ltN_L (x y : List Nat) : ltN x y = Op.bytesLess (bytesL x) (bytesL y) := by
  unfold ltN bytesL
  rw [Lib.toList_data, Lib.toList_data]
set_option maxHeartbeats 1000000 in
theorem sortedNames_any (Bm b W0 : Nat) (G : List Gx) (hl : G.length ≤ 1000) (w : World) (hm : w.cell? ⟨Bm, 0, none⟩ = some (.map (some b))) (hg : GrAt W0 w b G) :
    Calls Tryz.prog 41 #[.func (.func 82) #[] #[.pointer (some ⟨Bm, 0, none⟩)], .func (.func 43) #[] #[]] w fun e w' =>
      ∃ a cap zs, e = .returned (.slice a (zs : List (List Nat)).length cap) ∧ N8Sl w' a cap zs ∧ (∀ z ∈ zs, z ∈ G.map (·.nm)) ∧ (∀ i (h : i + 1 < zs.length), ltN zs[i] zs[i + 1] = true) ∧ zs.length ≤ G.length ∧ Below w.heap.size w w' := by
  have ha := collect8_any Bm b W0 G hl w hm hg
  have HN := Lib.hid hg.nms
  clear hm hg
  go_enter Tryz.func41, Tryz.ntmps41
  go_wp2_with fail
  (with_reducible refine ha.mono ?_)
  rintro e w1 ⟨v, ys, rfl, h1, ⟨h2, h3⟩, h4⟩
  obtain ⟨a, c, rfl, _, _⟩ := h1.slice
  have hok : ∀ y ∈ ys, NmOk y := fun y hy => by
    obtain ⟨x, hx, rfl⟩ := List.mem_map.1 (h3 y hy)
    exact HN.out x hx
  have hfew : ys.length ≤ G.length := by
    have := few_of_mem ys (G.map (·.nm)) h2 h3
    simpa using this
  have hsr := sort8_any w.heap.size a c ys w1 h1 hok (by omega)
  have hown : ∀ j, a = some ⟨j, 0, none⟩ → w.heap.size ≤ j := fun j e => by
    rcases h1.2 with ⟨h5, _⟩ | ⟨g, cap, cur, h5, h6, _⟩
    · injection h5 with h5; rw [h5] at e; cases e
    · injection h5 with h5
      rw [h5] at e
      cases e
      exact h6
  have H := Lib.hid (And.intro (And.intro h2 h3) (And.intro h4 (And.intro hok (And.intro hfew hown))))
  clear ha h1 h2 h3 h4 hok hfew hown
  go_wp2_with fail
  (with_reducible refine hsr.mono ?_)
  rintro e w2 ⟨rfl, zs, hp, hs, hz, hf⟩
  have HZ := Lib.hid (And.intro hp (And.intro hs (And.intro hz hf)))
  have hzl : zs.length = ys.length := hp.length_eq
  clear hsr hp hs hz hf
  go_wp2_with fail
  go_ret
  obtain ⟨⟨h2, h3⟩, h4, hok, hfew, hown⟩ := H.out
  obtain ⟨hp, hs, hz, hf⟩ := HZ.out
  refine ⟨a, c, zs, by rw [hzl]; rfl, hz, fun z hz => h3 z (hp.mem_iff.1 hz), fun i h => ?_, by omega, h4.trans (hf.below h4.size fun j hj e => by have := hown j e; omega)⟩
  rw [ltN_L]
  have hnd := hp.nodup_iff.2 h2
  rcases less_total (bytesL zs[i]) (bytesL zs[i + 1]) with h5 | h5 | h5
  · exact h5
  · exfalso
    have h6 := bytesL_inj (hok _ (hp.mem_iff.1 (List.getElem_mem (by omega)))) (hok _ (hp.mem_iff.1 (List.getElem_mem h))) h5
    have h7 := (List.getElem?_inj (by omega : i < zs.length) hnd).1 (show zs[i]? = zs[i + 1]? by rw [List.getElem?_eq_getElem (by omega), List.getElem?_eq_getElem h, h6])
    omega
  · rw [hs i h] at h5
    cases h5
end Go.Proofs.YtfgaohilpbocbaaGreatDoor
end

section
namespace Go.Proofs.YtfgaohilpbocbaaGreatDoor
open Go.ChangeShapes Go.WideShapes Go.ChangeAt Go.RowKit Go.Joins
set_option linter.unusedVariables false

theorem ltN_trans {x y z : List Nat} (h1 : ltN x y = true) (h2 : ltN y z = true) : ltN x z = true := by
  rw [ltN_L] at *
  exact less_trans _ _ _ h1 h2
theorem rise_all {zs : List (List Nat)} (h : ∀ i (h : i + 1 < zs.length), ltN zs[i] zs[i + 1] = true) : ∀ d i (h : i + d + 1 < zs.length), ltN (zs[i]'(by omega)) zs[i + d + 1] = true
  | 0, i, h1 => h i h1
  | d + 1, i, h1 => ltN_trans (rise_all h d i (by omega)) (h (i + d + 1) h1)
theorem rise_lt {zs : List (List Nat)} (h : ∀ i (h : i + 1 < zs.length), ltN zs[i] zs[i + 1] = true) {i j : Nat} (hij : i < j) (hj : j < zs.length) : ltN (zs[i]'(by omega)) zs[j] = true := by
  obtain ⟨d, rfl⟩ : ∃ d, j = i + d + 1 := ⟨j - i - 1, by omega⟩
  exact rise_all h d i hj
/-- What the first k names gave. -/
structure SetsIn (F : List Pw) (zs : List (List Nat)) (k : Nat) (T : List Sw) : Prop where
  gets : ∀ x ∈ T, Gets F (nameS x.S) x.S
  frm : ∀ x ∈ T, ∃ j, ∃ h : j < zs.length, j < k ∧ nameS x.S = zs[j]
  few : T.length ≤ k
  rise : ∀ i (h : i + 1 < T.length), ltN (nameS T[i].S) (nameS T[i + 1].S) = true
theorem SetsIn.zero (F : List Pw) (zs : List (List Nat)) : SetsIn F zs 0 [] := ⟨fun x hx => (by cases hx), fun x hx => (by cases hx), Nat.le_refl _, fun i h => by simp at h⟩
theorem SetsIn.skip {F : List Pw} {zs : List (List Nat)} {k : Nat} {T : List Sw} (h : SetsIn F zs k T) : SetsIn F zs (k + 1) T :=
  ⟨h.gets, fun x hx => by obtain ⟨j, h1, h2, h3⟩ := h.frm x hx; exact ⟨j, h1, by omega, h3⟩, by have := h.few; omega, h.rise⟩
theorem SetsIn.push {F : List Pw} {zs : List (List Nat)} {k : Nat} {T : List Sw} (h : SetsIn F zs k T) (hr : ∀ i (h : i + 1 < zs.length), ltN zs[i] zs[i + 1] = true) (hk : k < zs.length) {x : Sw} (hg : Gets F zs[k] x.S) : SetsIn F zs (k + 1) (T ++ [x]) := by
  have hn : nameS x.S = zs[k] := by obtain ⟨_, _, _, _, _, _, _, _, _, h⟩ := hg; exact h
  refine ⟨fun y hy => ?_, fun y hy => ?_, by have := h.few; simp; omega, fun i hi => ?_⟩
  · rcases List.mem_append.1 hy with hy | hy
    · exact h.gets y hy
    · rw [List.mem_singleton.1 hy, hn]; exact hg
  · rcases List.mem_append.1 hy with hy | hy
    · obtain ⟨j, h1, h2, h3⟩ := h.frm y hy; exact ⟨j, h1, by omega, h3⟩
    · rw [List.mem_singleton.1 hy]; exact ⟨k, hk, by omega, hn⟩
  · simp only [List.length_append, List.length_cons, List.length_nil] at hi
    by_cases e : i + 1 < T.length
    · rw [List.getElem_append_left (by omega), List.getElem_append_left e]
      exact h.rise i e
    · rw [List.getElem_append_left (by omega), List.getElem_append_right (by omega)]
      simp only [show i + 1 - T.length = 0 by omega, List.getElem_cons_zero]
      obtain ⟨j, h1, h2, h3⟩ := h.frm T[i] (List.getElem_mem (by omega))
      rw [h3, hn]
      exact rise_lt hr h2 hk
/-- What Join gives of a name, set by set or none. -/
def JOut (F : List Pw) (name : List Nat) (w : World) (e : Ending) (w' : World) : Prop := Below w.heap.size w w' ∧ ∃ (A : Array Value) (n : Int), e = .returned (.tuple #[.agg A, .int .i64 n]) ∧ A.size = 3 ∧ A.all (·.oneCell') = true ∧
  (n ≠ 0 ∨ n = 0 ∧ ∃ S fa fc sa sc, A = rowArr 3 (setV S fa fc sa sc) ∧ SetAt w' S fa fc sa sc ∧ (sa = none → sc = 0) ∧ NewS w fa sa ∧ Gets F name S)
theorem rowArr3_one (S : St) (fa : Option Addr) (fc : Nat) (sa : Option Addr) (sc : Nat) : (rowArr 3 (setV S fa fc sa sc)).all (·.oneCell') = true := by
  simp [rowArr, List.range_succ, setV, Value.oneCell']
theorem JoinPostN.out {F : List Pw} {name : List Nat} {w w' : World} {e : Ending} (h : JoinPostN F name w e w') : JOut F name w e w' := by
  obtain ⟨⟨hb, M, hM, hc⟩, hn⟩ := h
  refine ⟨hb, ?_⟩
  rcases hc with ⟨h1, _⟩ | ⟨m0, f0, S, h1, h2, h3, ⟨h4, _⟩ | ⟨⟨h4, h5, h6⟩, fa, fc, sa, sc, h7, h8, h9⟩⟩
  · exact ⟨zSetA, 7, h1, rfl, by kernel_rfl, .inl (by decide)⟩
  · exact ⟨zSetA, 2, h4, rfl, by kernel_rfl, .inl (by decide)⟩
  · exact ⟨_, 0, h7, rowArr_size _ _, rowArr3_one _ _ _ _ _, .inr ⟨rfl, S, fa, fc, sa, sc, rfl, h8, h9, hn _ _ _ _ _ h7, M, m0, f0, hM, h1, h2, h3, h4, h5, h6⟩⟩
/-- The packets of one name, as a slice that is read. -/
theorem GrAt.sl {W0 : Nat} {w : World} {b : Nat} {G : List Gx} (h : GrAt W0 w b G) {x : Gx} (hx : x ∈ G) (hp : ∀ f ∈ x.l, PkAt w f.p f.sa f.sc f.da f.dc) : ∃ a c, x.v = .slice a x.l.length c ∧ PkSl w a c x.l := by
  obtain ⟨a, c, e, h1, h2⟩ := (h.rows x hx).slice
  refine ⟨a, c, e, h1, h2, ?_, hp⟩
  have ho : OwnP W0 w (.slice a x.l.length c) x.l := e ▸ h.rows x hx
  by_cases hl : x.l = []
  · exact .inl hl
  have hl0 : 0 < x.l.length := List.length_pos_iff.2 hl
  obtain ⟨g, e2, hg, _⟩ := ho.cells hl0
  refine .inr ⟨g, 0, e2, hg, fun i hi k hk => ?_⟩
  obtain ⟨g', e3, _, hc⟩ := ho.cells hi
  rw [e2] at e3
  cases e3
  rw [Nat.zero_add]
  exact hc k hk

theorem wpQuiet_look {ops : Array Oper} {rest : List Oper} {C : World → Prop} {o : Oper} {a : Act} {Q : Act → Prop} (hw : Region.wanted o (yielded ops a.tmps) = true) (t : TypeId) (m x : Operand) (c : Bool) (ho : o.op = .lookup t m x c)
    (mv kv v : Value) (hm : a.eval m = mv) (hx : a.eval x = kv) (hr : ∀ w, C w → (Instr.lookup t mv kv c).run Tryz.prog w = .ok v w)
    (h : wpQuiet Tryz.prog ops C Q rest (a.put o.dst v)) : wpQuiet Tryz.prog ops C Q (o :: rest) a :=
  wpQuiet_step fun K hK => by
    rw [if_pos hw]
    refine ⟨_, fun w hc => ?_, hK _ h⟩
    unfold Oper.quietAt execOp
    simp only [ho, hm, hx, Sem.run_bind, Sem.run_pure, hr w hc, Result.andThen_ok]
    exact ⟨rfl, rfl⟩
theorem run_allocW (w : World) : (Instr.alloc 30 true (.tuple #[])).run Tryz.prog w = .ok (.pointer (some ⟨w.heap.size, 0, none⟩)) (w.alloc (.cells zSetA 30)) := by kernel_rfl
theorem op_allocW {o : Oper} {a : Act} {w : World} {K : Act → World → Prop} {Q : Exit → Act → World → Prop} (ho : o.op = .alloc 30)
    (h : K (a.put o.dst (.pointer (some ⟨w.heap.size, 0, none⟩))) (w.alloc (.cells zSetA 30))) : o.wp Tryz.prog a w K Q := by
  unfold Oper.wp execOp
  simp only [ho, Sem.run_bind, Sem.run_pure, run_allocW, Result.andThen_ok]
  exact h
theorem op_storeW {o : Oper} {a : Act} {w : World} {K : Act → World → Prop} {Q : Exit → Act → World → Prop} (x y : Operand) (ho : o.op = .store 30 x y)
    (g : Nat) (cells : Array Value) (hx : a.eval x = .pointer (some ⟨g, 0, none⟩)) (hy : a.eval y = .agg cells)
    (hg : w.heap[g]? = some (.cells zSetA 30 (0, 0))) (hs : cells.size = 3) (h1 : cells.all (·.oneCell') = true)
    (h : ∀ w', Hid (w'.heap[g]? = some (.cells cells 30 (0, 0))) → Hid (Fr (fun k => k = g) w w') → K (a.put o.dst undef) w') : o.wp Tryz.prog a w K Q :=
  wp_store_row 30 x y ho g cells hx hy 30 zSetA hg (by rw [hs]; kernel_rfl) (by rw [hs]; rfl) h1 (h _ (setRow_heap _ _ _ _ _ _ hg) (Fr.setRow (X := fun k => k = g) (Fr.refl _ w) (fun _ => rfl) cells))
set_option maxRecDepth 1000000 in
set_option maxHeartbeats 16000000 in
theorem sets_any : SetsC := by
  intro na nc N ba bc R w hN hR h20 hT hm ht
  have mixed : Tryz.prog.follows .mixedOrders = true := by kernel_rfl
  obtain ⟨PQ, hPQ⟩ : ∃ PQ, PQ = SetsPost R w := ⟨_, rfl⟩
  have HPQ := Lib.hid hPQ
  rw [← hPQ]
  obtain ⟨arr, harr⟩ : ∃ arr, arr = storeA na N.length nc ba R.length bc := ⟨_, rfl⟩
  have hsv : storeV na N.length nc ba R.length bc = .agg arr := by rw [harr]; rfl
  have hb0 : Below w.heap.size w (w.alloc (.cells arr 34)) := (Below.refl _ _).alloc (Nat.le_refl _) _
  have hx0 : (w.alloc (.cells arr 34)).heap[w.heap.size]? = some (.cells arr 34 (0, 0)) := heap_alloc_last w _
  have hpc := packets_any na nc N ba bc R (w.alloc (.cells arr 34)) (hN.below hb0) ((hR.keep (Nat.le_refl _) (Keep.of_below hb0)).raise hb0.size) h20 hT (ht.below hb0)
  have HRB := Lib.hid hR.byte
  have HT := Lib.hid hT
  have HMX := Lib.hid (hm.below hb0)
  have HTB := Lib.hid (ht.below hb0)
  have HAR : Hid (arr.size = 2) := by show _ = _; rw [harr, storeA_size]
  have HB0 := Lib.hid hb0
  rw [hsv] at hpc ⊢
  clear hN hR hT hm ht hPQ hb0 hsv harr
  go_enter Tryz.func15, Tryz.ntmps15
  go_upto_region 2 with fail
  change Code.wp _ _ _ _ (w.alloc (.cells arr 34))
  obtain ⟨bx, hbx⟩ : ∃ bx, bx = w.heap.size := ⟨_, rfl⟩
  rw [← hbx] at hx0 ⊢
  generalize w.alloc (.cells arr 34) = w1 at *
  have HX0 := Lib.hid hx0
  clear hbx hx0
  go_upto_region 3 with (first
    | (refine wpList_load_row rfl 34 _ rfl bx rfl 34 arr (0, 0) _ HX0.out Tryz.underlying34 rfl (by rw [HAR.out]; kernel_rfl) ?_)
    | (go_at_call 16; (with_reducible refine hpc.mono ?_); rintro e w2 ⟨v2, F, rfl, hp, ha⟩; obtain ⟨pa, pc, rfl, _, _⟩ := hp.own.slice; have HP := Lib.hid hp; have HAF := Lib.hid ha; clear hpc; have hroom := ha.room HRB.out; rw [List.length_map] at hroom; have HROOM := Lib.hid hroom; have HFL : Hid (F.length ≤ 408) := (by show _ ≤ _; have h1 := HT.out; omega); have hby := byName_any pa pc F w2 hp.sl (by have h1 := HFL.out; omega); clear hp ha hroom)
    | (go_at_call 40; (with_reducible refine hby.mono ?_); rintro e w3 ⟨mb, G, rfl, hb3, hg3, hG, _⟩; have HB23 := Lib.hid hb3; have HG3 := Lib.hid hg3; have HGO := Lib.hid hG; clear hby hb3 hg3 hG))
  have hgl : G.length ≤ 1000 := by have h1 := HGO.out.few; have h2 := HFL.out; omega
  have hkf := keysF_any (some mb) w3
  have hq4 : (w3.alloc (.cells #[.map (some mb)] 103)).cell? ⟨w3.heap.size, 0, none⟩ = some (.map (some mb)) := by
    rw [cell_of_block (heap_alloc_last w3 _)]; rfl
  have hb34 : Below w3.heap.size w3 (w3.alloc (.cells #[.map (some mb)] 103)) := (Below.refl _ _).alloc (Nat.le_refl _) _
  have hsn := sortedNames_any w3.heap.size mb _ G hgl _ hq4 (HG3.out.later hb34)
  have HB34 := Lib.hid hb34
  clear hq4 hb34
  go_upto_region 4 with (first
    | (go_at_call 42; (with_reducible refine hkf.mono ?_); rintro e w4 ⟨rfl, rfl⟩; clear hkf)
    | (go_at_call 41; (with_reducible refine hsn.mono ?_); rintro e w5 ⟨za, zc, zs, rfl, hz, hzm, hzr, hzl, hb5⟩; have HZ := Lib.hid hz; have HZM := Lib.hid hzm; have HZR := Lib.hid hzr; have HZL := Lib.hid hzl; have HB35 : Hid (Below w3.heap.size w3 w5) := HB34.out.trans (hb5.mono HB34.out.size); clear hz hzm hzr hzl hb5 hsn HB34))
  have hzl : zs.length ≤ 9223372036854775807 := by have h1 := HZL.out; omega
  have HB25 : Hid (Below w2.heap.size w2 w5) := HB23.out.trans (HB35.out.mono HB23.out.size)
  have HB15 : Hid (Below w1.heap.size w1 w5) := HP.out.below.trans (HB25.out.mono HP.out.below.size)
  have HBW5 : Hid (Below w.heap.size w w5) := HB0.out.trans (HB15.out.mono HB0.out.size)
  have HG5 : Hid (GrAt (w2.heap.size + 1) w5 mb G) := HG3.out.later HB35.out
  have HPF : Hid (∀ f ∈ F, PkAt w5 f.p f.sa f.sc f.da f.dc) := fun f hf => (HP.out.pks f hf).1.below HB25.out
  have HM5 : Hid (Mx w5) := HMX.out.below HB15.out
  have HT5 : Hid (Tabs w5) := HTB.out.below HB15.out
  have HW0 : Hid (WSt w5 w5 (.slice none 0 0) []) := ⟨OwnW.nil _ _, Below.refl _ _, fun x hx => (by cases hx)⟩
  have HS0 : Hid (SetsIn F zs 0 []) := .zero F zs
  clear HG3 HP HMX HTB HB23 HB35 HB25 HB15 HB0 HX0 HAR hgl
  go_wp2_with fail
  go_loopw [3, 16] (fun v i wr => ∃ (k : Nat) (T : List Sw), k ≤ zs.length ∧ i = .int .i64 k ∧ Hid (WSt w5 wr v T) ∧ Hid (SetsIn F zs k T)) (fun _ i _ => zs.length - (intOf i).toNat)
  case atStart => exact ⟨0, [], by omega, rfl, HW0, HS0⟩
  case round =>
    obtain ⟨k, T, hk, rfl, HW, HS⟩ := hrel
    clear HW0 HS0
    by_cases hlt : k < zs.length
    · have d : decide ((k : Int) < (zs.length : Int)) = true := by simp; omega
      obtain ⟨x, hxG, hxn⟩ := List.mem_map.1 (HZM.out _ (List.getElem_mem hlt))
      obtain ⟨gz, off, rfl, hgz, hcz⟩ : ∃ g off, za = some ⟨g, off, none⟩ ∧ g < w5.heap.size ∧ ∀ i (h : i < zs.length) j, j < 8 → w5.cell? ⟨g, off + i * 8 + j, none⟩ = some (vOf zs[i] j) := by
        rcases HZ.out.here with h0 | ⟨g, h1, h2, h3⟩
        · rw [h0] at hlt; simp at hlt
        · exact ⟨g, 0, h1, h2, fun i hi j hj => by rw [Nat.zero_add]; exact h3 i hi j hj⟩
      obtain ⟨z, hz⟩ : ∃ z, z = zs[k] := ⟨_, rfl⟩
      have hok : NmOk z := by rw [hz, ← hxn]; exact HG5.out.nms x hxG
      have HXC : Hid (∀ j, j < 8 → wr.cell? ⟨gz, off + k * 8 + j, none⟩ = some (vOf z j)) := fun j hj => by
        rw [hz]
        exact (HW.out.below.cell (p := ⟨gz, off + k * 8 + j, none⟩) hgz).trans (hcz k hlt j hj)
      obtain ⟨QA, hQA⟩ : ∃ QA, QA = rowArr 8 (vOf z) := ⟨_, rfl⟩
      have VQ : Hid (rowArr 8 (vOf z) = QA) := hQA.symm
      have HQs : Hid (QA.size = 8) := by show _ = _; rw [hQA, rowArr_size]
      have HQ1 : Hid (QA.all (·.oneCell') = true) := by show _ = _; rw [hQA]; exact nm_one z
      have HALL : Hid (∀ c : Array Value, (wr.alloc (.cells c 64)).heap[wr.heap.size]? = some (.cells c 64 (0, 0))) := fun c => heap_alloc_last wr _
      have HALB : Hid (∀ c : Array Value, Below wr.heap.size wr (wr.alloc (.cells c 64))) := fun c => (Below.refl _ _).alloc (Nat.le_refl _) _
      have HZK := Lib.hid hz
      have HXG := Lib.hid (And.intro hxG hxn)
      have HOK := Lib.hid hok
      clear hQA hcz hz hxG hxn hok hgz
      go_upto_region 6 with (first
        | (refine wpList_load_v (by rfl) 64 _ rfl gz (off + k * 8) 8 _ QA VQ.out rfl _ HXC.out Tryz.underlying64 rfl (by kernel_rfl) ?_)
        | (refine wpList_store_arr rfl 64 _ _ rfl wr.heap.size QA rfl rfl 64 _ (HALL.out _) (by rw [HQs.out]; kernel_rfl) (by rw [HQs.out]; rfl) HQ1.out ?_; intro w7 HC7 hf7; have HB67 : Hid (Below wr.heap.size wr w7) := (HALB.out _).trans (hf7.out.below (HALB.out _).size (fun k hk e => by omega)); clear hf7 HALL HALB))
      have HW7 := Lib.hid (HW.out.later HB67.out)
      have HV7 : Hid (∀ b, u3.ownBlock = some b → b < w7.heap.size) := fun b hb => Nat.lt_of_lt_of_le (HW.out.own.at hb).2 HB67.out.size
      obtain ⟨g7, hg7⟩ : ∃ g7, g7 = wr.heap.size := ⟨_, rfl⟩
      rw [← hg7] at HC7 ⊢
      have hg7r : g7 < w7.heap.size := (Array.getElem?_eq_some_iff.1 HC7.out).1
      clear hg7
      have hg5 := HG5.out.later HW7.out.below
      have hxl : x.l = F.filter fun f => decide (f.p.set = z) := by
        have h1 := HGO.out.each x HXG.out.1
        rw [List.take_length, HXG.out.2, ← HZK.out] at h1
        exact h1
      have hmem : ∀ f ∈ x.l, f ∈ F := fun f hf => by rw [hxl] at hf; exact (List.mem_filter.1 hf).1
      obtain ⟨xa, xc, hxv, hxs⟩ := hg5.sl HXG.out.1 fun f hf => (HPF.out f (hmem f hf)).below HW7.out.below
      have HLK : Hid (∀ wx, Below w7.heap.size w7 wx → (Instr.lookup 103 (.map (some mb)) (.agg QA) false).run Tryz.prog wx = .ok (.slice xa x.l.length xc) wx) := fun wx h => by
        have hlk := (hg5.later h).look HXG.out.1
        rw [hxv, HXG.out.2, ← HZK.out] at hlk
        rw [← VQ.out]
        exact hlk
      have hle : x.l.length ≤ 500 := by
        have h1 := List.length_filter_le (fun f => decide (f.p.set = z)) F
        have h2 := HFL.out
        rw [hxl]; omega
      have HJN : Hid (∀ wx, Below w7.heap.size w7 wx → Calls Tryz.prog 19 #[.slice xa x.l.length xc, .agg QA] wx (JOut x.l z wx)) := fun wx h => by
        have hjn := (join14_new xa xc x.l z wx (hxs.below h) HOK.out.1 HOK.out.2 hle (fun f hf _ => by
          have h1 := (HROOM.out.2 f.p (List.mem_map.2 ⟨f, hmem f hf, rfl⟩)).2.2
          have h2 := HT.out
          omega) ((HM5.out.below HW7.out.below).below h) ((HT5.out.below HW7.out.below).below h)).mono fun e w' h => h.out
        rw [VQ.out] at hjn
        exact hjn
      have HXL := Lib.hid hxl
      have hxm : x.l.length ≤ 9223372036854775807 := by omega
      have HC8 : Hid (∀ wx, Below w7.heap.size w7 wx → ∀ j, j < 8 → wx.cell? ⟨g7, 0 + j, none⟩ = some (vOf z j)) := fun wx h j hj => by
        rw [h.cell (p := ⟨g7, 0 + j, none⟩) hg7r, Nat.zero_add, cell_of_block HC7.out, ← VQ.out]
        simp [rowArr, hj]
      obtain ⟨wd, hwd⟩ : ∃ wd, wd = w7.drew := ⟨_, rfl⟩
      have HB7d : Hid (Below w7.heap.size w7 wd) := by show Below _ _ _; rw [hwd]; exact (Below.refl _ _).drew
      have hu : ∀ u : KeepW wd (fun _ => False), Below w7.heap.size w7 u.v := fun u => HB7d.out.trans (u.h.below HB7d.out.size fun j hj e => e)
      have kn : Hid (∀ u : KeepW wd (fun _ => False), ∀ j, j < 8 → u.v.cell? ⟨g7, 0 + j, none⟩ = some (vOf z j)) := fun u => HC8.out _ (hu u)
      have kl : Hid (∀ u : KeepW wd (fun _ => False), (Instr.lookup 103 (.map (some mb)) (.agg QA) false).run Tryz.prog u.v = .ok (.slice xa x.l.length xc) u.v) := fun u => HLK.out _ (hu u)
      clear hg5 hxl hmem hxv hxs hle HXC HC7 HB67 HW HC8 HLK hu
      go_upto_region 6 with fail
      refine growK_begin 10 (fun w' => ∃ u : KeepW wd (fun _ => False), w' = u.v) (by kernel_rfl) ?_
      rw [← hwd]
      clear hwd
      refine growK_take (by kernel_rfl) [0, 1, 3, 2] 7 _ _ (by kernel_rfl) _ (keep_class (Fr.refl _ _)) ?_
      simp only [opsAt, List.getElem?_toArray, List.getElem?_cons_succ, List.getElem?_cons_zero]
      repeat (first
        | (refine wpQuiet_load_v (by rfl) 64 _ rfl g7 0 8 _ QA VQ.out rfl _ (fun w hw j hj => by obtain ⟨u, rfl⟩ := hw; exact kn.out u j hj) Tryz.underlying64 rfl (by kernel_rfl) ?_)
        | (refine wpQuiet_look (by rfl) 103 _ _ false rfl (.map (some mb)) (.agg QA) (.slice xa x.l.length xc) rfl rfl (fun w hw => by obtain ⟨u, rfl⟩ := hw; exact kl.out u) ?_)
        | go_big_quiet_step (fail) | quiet_step (fail))
      refine wpQuiet_nil ?_
      clear kn kl
      refine growK_two 4 8 (by kernel_rfl) (fun K hK => ?_) (fun K hK => ?_)
      · simp only [stepOf, List.getElem?_toArray, List.getElem?_cons_succ, List.getElem?_cons_zero]
        go_simp
        go_at_call 19
        (with_reducible refine (HJN.out wd HB7d.out).mono ?_)
        rintro e w8 ⟨b8, A, n, rfl, hA3, hA1, hjo⟩
        have HA3 := Lib.hid hA3
        have HA1 := Lib.hid hA1
        have HJO := Lib.hid hjo
        have HB8 := Lib.hid b8
        clear b8 hA3 hA1 hjo HJN
        refine hK.out _ _ (keep_class (Fr.of_below HB8.out)) ?_
        clear hK K
        refine growK_take (by kernel_rfl) [5, 6, 7] 3 _ _ (by kernel_rfl) _ (keep_class (Fr.of_below HB8.out)) ?_
        simp only [opsAt, List.getElem?_toArray, List.getElem?_cons_succ, List.getElem?_cons_zero]
        repeat (first | go_big_quiet_step (fail) | quiet_step (fail))
        refine wpQuiet_nil ?_
        refine growK_one 8 (by kernel_rfl) (fun K hK => ?_)
        simp only [stepOf, List.getElem?_toArray, List.getElem?_cons_succ, List.getElem?_cons_zero]
        rw [if_pos (by rfl)]
        refine op_allocW rfl ?_
        have HBa : Hid (Below w8.heap.size w8 (w8.alloc (.cells zSetA 30))) := (Below.refl _ _).alloc (Nat.le_refl _) _
        have HZ9 : Hid ((w8.alloc (.cells zSetA 30)).heap[w8.heap.size]? = some (.cells zSetA 30 (0, 0))) := heap_alloc_last w8 _
        obtain ⟨g9, hg9⟩ : ∃ g9, g9 = w8.heap.size := ⟨_, rfl⟩
        rw [← hg9] at HZ9 ⊢
        have HG9 := Lib.hid hg9
        generalize w8.alloc (.cells zSetA 30) = wa at *
        clear hg9
        have HBda : Hid (Below wd.heap.size wd wa) := HB8.out.trans (HBa.out.mono HB8.out.size)
        refine hK.out _ _ (keep_class (Fr.of_below HBda.out)) ?_
        clear hK K
        refine growK_one 9 (by kernel_rfl) (fun K hK => ?_)
        simp only [stepOf, List.getElem?_toArray, List.getElem?_cons_succ, List.getElem?_cons_zero]
        rw [if_pos (by rfl)]
        refine op_storeW _ _ rfl g9 A rfl rfl HZ9.out HA3.out HA1.out ?_
        intro w9 HC9 hf9
        have HBa9 : Hid (Below w8.heap.size w8 w9) := HBa.out.trans (hf9.out.below HBa.out.size fun k hk e => by have := HG9.out; omega)
        have HBd9 : Hid (Below wd.heap.size wd w9) := HB8.out.trans (HBa9.out.mono HB8.out.size)
        have HJ9 : Hid (n ≠ 0 ∨ n = 0 ∧ ∃ S fa fc sa sc, A = rowArr 3 (setV S fa fc sa sc) ∧ SetAt w9 S fa fc sa sc ∧ (sa = none → sc = 0) ∧ NewS w7 fa sa ∧ Gets x.l z S) := by
          rcases HJO.out with h | ⟨h0, S, fa, fc, sa, sc, h1, h2, h3, ⟨h4, h5⟩, h6⟩
          · exact .inl h
          · exact .inr ⟨h0, S, fa, fc, sa, sc, h1, h2.below HBa9.out, h3, ⟨fun q hq => Nat.le_trans HB7d.out.size (h4 q hq), fun q hq => Nat.le_trans HB7d.out.size (h5 q hq)⟩, h6⟩
        refine hK.out _ _ (keep_class (Fr.of_below HBd9.out)) ?_
        clear hK K hf9
        refine growK_last (by kernel_rfl) (by kernel_rfl) (fun K hK => ?_)
        simp only [stepOf, List.getElem?_toArray, List.getElem?_cons_succ, List.getElem?_cons_zero]
        go_simp
        refine hK.out _ _ ?_
        clear hK K
        have HB79 : Hid (Below w7.heap.size w7 w9) := HB7d.out.trans (HBd9.out.mono HB7d.out.size)
        have HW9 := Lib.hid (HW7.out.later HB79.out)
        clear HZ9 HJO
        by_cases hn : n = 0
        · have HNS : Hid (∃ S fa fc sa sc, A = rowArr 3 (setV S fa fc sa sc) ∧ SetAt w9 S fa fc sa sc ∧ (sa = none → sc = 0) ∧ NewS w7 fa sa ∧ Gets x.l z S) := by
            rcases HJ9.out with h | ⟨_, h⟩
            · exact absurd hn h
            · exact h
          subst hn
          obtain ⟨S, fa, fc, sa, sc, hA, hSA, hsn, hnew, hget⟩ := HNS.out
          have VA : Hid (rowArr 3 (setV S fa fc sa sc) = A) := hA.symm
          have HGT : Hid (Gets F zs[k] S) := by
            show Gets _ _ _
            rw [HXL.out] at hget
            rw [← HZK.out]
            exact hget.wide
          have hb10 : Below w9.heap.size w9 (w9.alloc (.cells (rowArr 3 (setV S fa fc sa sc)) 30)) := (Below.refl _ _).alloc (Nat.le_refl _) _
          have hc10 : (w9.alloc (.cells (rowArr 3 (setV S fa fc sa sc)) 30)).heap[w9.heap.size]? = some (.cells (rowArr 3 (setV S fa fc sa sc)) 30 (0, 0)) := heap_alloc_last w9 _
          have HC10 : Hid (∀ j, j < 3 → (w9.alloc (.cells (rowArr 3 (setV S fa fc sa sc)) 30)).cell? ⟨w9.heap.size, j, none⟩ = some (swV ⟨S, fa, fc, sa, sc⟩ j)) := fun j hj => by
            rw [cell_of_block hc10]
            simp [rowArr, hj, swV]
          have HW10 := Lib.hid (HW9.out.later hb10)
          have HSA := Lib.hid (And.intro (hSA.below hb10) (And.intro hsn hnew))
          have HBS : Hid (w5.heap.size ≤ (w9.alloc (.cells (rowArr 3 (setV S fa fc sa sc)) 30)).heap.size) := HW10.out.below.size
          have HTL : Hid (T.length ≤ 1000000) := by
            show _ ≤ _
            have h1 := HS.out.few; have h2 := HZL.out; have h3 := HGO.out.few; have h4 := HFL.out
            omega
          have HSN : Hid (SetsIn F zs (k + 1) (T ++ [⟨S, fa, fc, sa, sc⟩])) := HS.out.push HZR.out hlt HGT.out
          clear hA hSA hsn hnew hget HNS hb10 hc10
          go_wp2_with (first
            | (refine wpList_load_row rfl 30 _ rfl g9 rfl 30 A (0, 0) _ HC9.out Tryz.underlying30 rfl (by rw [HA3.out]; kernel_rfl) ?_)
            | (refine wpList_buildW rfl _ rfl (setV S fa fc sa sc) (congrArg Value.agg VA.out.symm) ?_)
            | (at_builtin; refine wpList_push_w _ rfl _ _ rfl w5.heap.size _ T rfl HW10.out.own w9.heap.size rfl ⟨S, fa, fc, sa, sc⟩ HC10.out HBS.out HTL.out ?_; intro v' w11 o11 g11 e11))
          have HWN : Hid (WSt w5 w11 v' (T ++ [⟨S, fa, fc, sa, sc⟩])) := HW10.out.push HSA.out.1 HSA.out.2.1 ⟨fun _ q hq hb => by have h1 := HV7.out _ hb; have h2 := HSA.out.2.2.1 q hq; omega, fun _ q hq hb => by have h1 := HV7.out _ hb; have h2 := HSA.out.2.2.2 q hq; omega⟩ o11.out g11.out e11.out
          go_roundw
          case rel => exact ⟨k + 1, _, by omega, by go_num, HWN, HSN⟩
          case measure => simp [intOf]; omega
        · have d0 : decide (n = 0) = false := decide_eq_false hn
          have HSN : Hid (SetsIn F zs (k + 1) T) := HS.out.skip
          go_wp2_with fail
          go_roundw
          case rel => exact ⟨k + 1, _, by omega, by go_num, HW9, HSN⟩
          case measure => simp [intOf]; omega
      · simp only [stepOf, List.getElem?_toArray, List.getElem?_cons_succ, List.getElem?_cons_zero]
        rw [if_pos (by rfl)]
        refine op_allocW rfl ?_
        have HBa : Hid (Below wd.heap.size wd (wd.alloc (.cells zSetA 30))) := (Below.refl _ _).alloc (Nat.le_refl _) _
        have HZa : Hid ((wd.alloc (.cells zSetA 30)).heap[wd.heap.size]? = some (.cells zSetA 30 (0, 0))) := heap_alloc_last wd _
        obtain ⟨g9, hg9⟩ : ∃ g9, g9 = wd.heap.size := ⟨_, rfl⟩
        rw [← hg9] at HZa ⊢
        have HG9 := Lib.hid hg9
        generalize wd.alloc (.cells zSetA 30) = wa at *
        clear hg9
        have HB7a : Hid (Below w7.heap.size w7 wa) := HB7d.out.trans (HBa.out.mono HB7d.out.size)
        refine hK.out _ _ (keep_class (Fr.of_below HBa.out)) ?_
        clear hK K
        refine growK_one 4 (by kernel_rfl) (fun K hK => ?_)
        simp only [stepOf, List.getElem?_toArray, List.getElem?_cons_succ, List.getElem?_cons_zero]
        go_simp
        go_at_call 19
        (with_reducible refine (HJN.out wa HB7a.out).mono ?_)
        rintro e w8 ⟨b8, A, n, rfl, hA3, hA1, hjo⟩
        have HA3 := Lib.hid hA3
        have HA1 := Lib.hid hA1
        have HJO := Lib.hid hjo
        have HB8 := Lib.hid b8
        clear b8 hA3 hA1 hjo HJN
        have HBd8 : Hid (Below wd.heap.size wd w8) := HBa.out.trans (HB8.out.mono HBa.out.size)
        have hgl9 : g9 < wa.heap.size := (Array.getElem?_eq_some_iff.1 HZa.out).1
        have HZ9 : Hid (w8.heap[g9]? = some (.cells zSetA 30 (0, 0))) := (HB8.out.block _ hgl9).trans HZa.out
        have HGL := Lib.hid hgl9
        clear hgl9
        refine hK.out _ _ (keep_class (Fr.of_below HBd8.out)) ?_
        clear hK K
        refine growK_take (by kernel_rfl) [5, 6, 7] 2 _ _ (by kernel_rfl) _ (keep_class (Fr.of_below HBd8.out)) ?_
        simp only [opsAt, List.getElem?_toArray, List.getElem?_cons_succ, List.getElem?_cons_zero]
        repeat (first | go_big_quiet_step (fail) | quiet_step (fail))
        refine wpQuiet_nil ?_
        refine growK_one 9 (by kernel_rfl) (fun K hK => ?_)
        simp only [stepOf, List.getElem?_toArray, List.getElem?_cons_succ, List.getElem?_cons_zero]
        rw [if_pos (by rfl)]
        refine op_storeW _ _ rfl g9 A rfl rfl HZ9.out HA3.out HA1.out ?_
        intro w9 HC9 hf9
        have HBd9 : Hid (Below wd.heap.size wd w9) := HBd8.out.trans (hf9.out.below HBd8.out.size fun k hk e => by have := HG9.out; omega)
        have HJ9 : Hid (n ≠ 0 ∨ n = 0 ∧ ∃ S fa fc sa sc, A = rowArr 3 (setV S fa fc sa sc) ∧ SetAt w9 S fa fc sa sc ∧ (sa = none → sc = 0) ∧ NewS w7 fa sa ∧ Gets x.l z S) := by
          rcases HJO.out with h | ⟨h0, S, fa, fc, sa, sc, h1, h2, h3, ⟨h4, h5⟩, h6⟩
          · exact .inl h
          · exact .inr ⟨h0, S, fa, fc, sa, sc, h1, h2.fr hf9.out (fun _ q hq e => by have := h4 q hq; have := HGL.out; omega) (fun _ q hq e => by have := h5 q hq; have := HGL.out; omega), h3, ⟨fun q hq => Nat.le_trans HB7a.out.size (h4 q hq), fun q hq => Nat.le_trans HB7a.out.size (h5 q hq)⟩, h6⟩
        refine hK.out _ _ (keep_class (Fr.of_below HBd9.out)) ?_
        clear hK K hf9
        refine growK_last (by kernel_rfl) (by kernel_rfl) (fun K hK => ?_)
        simp only [stepOf, List.getElem?_toArray, List.getElem?_cons_succ, List.getElem?_cons_zero]
        go_simp
        refine hK.out _ _ ?_
        clear hK K
        have HB79 : Hid (Below w7.heap.size w7 w9) := HB7d.out.trans (HBd9.out.mono HB7d.out.size)
        have HW9 := Lib.hid (HW7.out.later HB79.out)
        clear HZ9 HJO
        by_cases hn : n = 0
        · have HNS : Hid (∃ S fa fc sa sc, A = rowArr 3 (setV S fa fc sa sc) ∧ SetAt w9 S fa fc sa sc ∧ (sa = none → sc = 0) ∧ NewS w7 fa sa ∧ Gets x.l z S) := by
            rcases HJ9.out with h | ⟨_, h⟩
            · exact absurd hn h
            · exact h
          subst hn
          obtain ⟨S, fa, fc, sa, sc, hA, hSA, hsn, hnew, hget⟩ := HNS.out
          have VA : Hid (rowArr 3 (setV S fa fc sa sc) = A) := hA.symm
          have HGT : Hid (Gets F zs[k] S) := by
            show Gets _ _ _
            rw [HXL.out] at hget
            rw [← HZK.out]
            exact hget.wide
          have hb10 : Below w9.heap.size w9 (w9.alloc (.cells (rowArr 3 (setV S fa fc sa sc)) 30)) := (Below.refl _ _).alloc (Nat.le_refl _) _
          have hc10 : (w9.alloc (.cells (rowArr 3 (setV S fa fc sa sc)) 30)).heap[w9.heap.size]? = some (.cells (rowArr 3 (setV S fa fc sa sc)) 30 (0, 0)) := heap_alloc_last w9 _
          have HC10 : Hid (∀ j, j < 3 → (w9.alloc (.cells (rowArr 3 (setV S fa fc sa sc)) 30)).cell? ⟨w9.heap.size, j, none⟩ = some (swV ⟨S, fa, fc, sa, sc⟩ j)) := fun j hj => by
            rw [cell_of_block hc10]
            simp [rowArr, hj, swV]
          have HW10 := Lib.hid (HW9.out.later hb10)
          have HSA := Lib.hid (And.intro (hSA.below hb10) (And.intro hsn hnew))
          have HBS : Hid (w5.heap.size ≤ (w9.alloc (.cells (rowArr 3 (setV S fa fc sa sc)) 30)).heap.size) := HW10.out.below.size
          have HTL : Hid (T.length ≤ 1000000) := by
            show _ ≤ _
            have h1 := HS.out.few; have h2 := HZL.out; have h3 := HGO.out.few; have h4 := HFL.out
            omega
          have HSN : Hid (SetsIn F zs (k + 1) (T ++ [⟨S, fa, fc, sa, sc⟩])) := HS.out.push HZR.out hlt HGT.out
          clear hA hSA hsn hnew hget HNS hb10 hc10
          go_wp2_with (first
            | (refine wpList_load_row rfl 30 _ rfl g9 rfl 30 A (0, 0) _ HC9.out Tryz.underlying30 rfl (by rw [HA3.out]; kernel_rfl) ?_)
            | (refine wpList_buildW rfl _ rfl (setV S fa fc sa sc) (congrArg Value.agg VA.out.symm) ?_)
            | (at_builtin; refine wpList_push_w _ rfl _ _ rfl w5.heap.size _ T rfl HW10.out.own w9.heap.size rfl ⟨S, fa, fc, sa, sc⟩ HC10.out HBS.out HTL.out ?_; intro v' w11 o11 g11 e11))
          have HWN : Hid (WSt w5 w11 v' (T ++ [⟨S, fa, fc, sa, sc⟩])) := HW10.out.push HSA.out.1 HSA.out.2.1 ⟨fun _ q hq hb => by have h1 := HV7.out _ hb; have h2 := HSA.out.2.2.1 q hq; omega, fun _ q hq hb => by have h1 := HV7.out _ hb; have h2 := HSA.out.2.2.2 q hq; omega⟩ o11.out g11.out e11.out
          go_roundw
          case rel => exact ⟨k + 1, _, by omega, by go_num, HWN, HSN⟩
          case measure => simp [intOf]; omega
        · have d0 : decide (n = 0) = false := decide_eq_false hn
          have HSN : Hid (SetsIn F zs (k + 1) T) := HS.out.skip
          go_wp2_with fail
          go_roundw
          case rel => exact ⟨k + 1, _, by omega, by go_num, HW9, HSN⟩
          case measure => simp [intOf]; omega
    · have hkL : k = zs.length := by omega
      subst hkL
      have d : decide ((zs.length : Int) < (zs.length : Int)) = false := by simp
      go_wp2_with fail
      rw [HPQ.out]
      obtain ⟨a, c, hv, _, _⟩ := HW.out.own.slice
      subst hv
      refine ⟨HBW5.out.trans (HW.out.below.mono HBW5.out.size), a, c, T, rfl, HW.out.sl, fun F' hF' y hy => (HS.out.gets y hy).like (HAF.out.one hF'), ?_, HS.out.rise⟩
      have h1 := HS.out.few; have h2 := HZL.out; have h3 := HGO.out.few; have h4 := HFL.out
      omega
end Go.Proofs.YtfgaohilpbocbaaGreatDoor
end

section
namespace Go.Proofs.YtfgaohilpbocbaaGreatDoor
open Go.ChangeShapes Go.WideShapes

theorem handed_shaped_sized {H : Type} {enc : TypeId × Value → H} {a : Assume} {C : Checked} {os : Os} {f : FuncId} {fn : Func} {s : ChangeSpec} {conds : List PathCond} {apart fresh handsOn again : Bool} {X : World → Array Value → Prop}
    (stays : ∀ (w w' : World) (args : Array Value), w.heap = w'.heap → X w args → X w' args) (knob : ownKnob C.prog.godebug = none) (hos : os.Started) (plain : C.prog.inits.idxOf? f = none) (is : C.prog.funcs[f]? = some fn)
    (fits : ∃ (w : World) (tape : Tape) (i : Input), w.os = os ∧ (w.forCall tape i).Shaped C.prog ∧ i.vars = [] ∧ Input.okWide C.prog (w.forCall tape i) .any w.heap.size f i ∧
      ((s.pre enc C.prog fn conds apart (w.forCall tape i).memory i.args ∧ X (w.forCall tape i).memory i.args) ∧ sizedMet enc C.prog fn (OpenSpec.ofChange s) apart (w.forCall tape i).memory i.args) ∧ a.holds C.prog (lone (Frame.enter C.prog f i.args .normal) [] (w.forCall tape i)))
    (walk : ∀ (W : World) (base : Nat) (args : Array Value) (ds gs : List (DataW H)) (before : List MemPlace), W.ShapedOpen C.prog → X W args →
      (∀ (j : Nat) t v, fn.params[j]? = some t → args[j]? = some v → Value.okWide C.prog W .any base t v) →
      DataW.Whole enc C.prog fn.params.toList s.vars apart W args.toList ds gs before →
      (DataW.weightsEach C.prog (fn.params.toList ++ s.plain.varTypes C.prog) (ds ++ gs)).all (· ≤ reachBytes) = true →
      Calls C.prog f args W fun e W' => ∃ v, e = .returned v ∧ s.post enc C.prog fn apart fresh handsOn again W args v W') :
    ReturnsInHanded a C os f .any (fun w args => (s.pre enc C.prog fn conds apart w args ∧ X w args) ∧ sizedMet enc C.prog fn (OpenSpec.ofChange s) apart w args) (s.post enc C.prog fn apart fresh handsOn again) := by
  apply returnsInHanded_of_calls knob hos plain fits
  rintro w tape i - shape - ⟨-, -, -, g, hg, -, -, -, -, vals⟩ ⟨⟨⟨ds, gs, before, whole, -⟩, x⟩, hz⟩ -
  obtain rfl : g = fn := Option.some.inj (hg.symm.trans is)
  have W1 : DataW.Whole enc C.prog g.params.toList s.vars apart (w.forCall tape i) i.args.toList ds gs before := DataW.Whole.of_heap (by rfl) whole
  refine (walk _ w.heap.size i.args ds gs before shape (stays (w.forCall tape i).memory _ _ (by rfl) x) vals W1 (hz.weights whole)).mono ?_
  rintro e W' ⟨v, rfl, post⟩
  exact ChangeSpec.post_blind post
end Go.Proofs.YtfgaohilpbocbaaGreatDoor
end
