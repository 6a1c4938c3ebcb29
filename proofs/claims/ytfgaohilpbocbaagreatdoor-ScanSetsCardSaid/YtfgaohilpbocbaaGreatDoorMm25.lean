/-
  What the laws ask ahead: of nothing nothing.
  Stores, and what scan's calls promise, as contracts.
  Which stores are of a size that is looked at; the law's awake.
  The law's Few and Same of sets; a set that is handed in.
-/
import Derived.Test.YtfgaohilpbocbaaGreatDoorMm24
section
namespace Go.Proofs.YtfgaohilpbocbaaGreatDoor
open Go.ChangeShapes Go.WideShapes Go.ChangeAt Go.RowKit Go.Joins
set_option linter.unusedVariables false

/-- A store's cells. -/
def storeV (na : Option Addr) (nn nc : Nat) (ba : Option Addr) (bn bc : Nat) : Value := .agg #[.slice na nn nc, .slice ba bn bc]
/-- Of nothing nothing: what the laws ask ahead. -/
def LookNilC : Prop := ∀ w : World, Mx w → Tabs w → Calls Tryz.prog 12 #[storeV none 0 0 none 0 0, .agg (rowArr 3 (setV ⟨0, [], []⟩ none 0 none 0))] w fun e w' => e = .returned (.tuple #[.agg #[.slice none 0 0, .slice none 0 0, .slice none 0 0], .int .i64 1]) ∧ Below w.heap.size w w'
def LoadNilC : Prop := ∀ w : World, Calls Tryz.prog 27 #[.pointer none] w fun e w' => e = .returned (.tuple #[storeV none 0 0 none 0 0, .int .i64 1]) ∧ Below w.heap.size w w'
def storeA (na : Option Addr) (nn nc : Nat) (ba : Option Addr) (bn bc : Nat) : Array Value := #[.slice na nn nc, .slice ba bn bc]
theorem storeA_size (na : Option Addr) (nn nc : Nat) (ba : Option Addr) (bn bc : Nat) : (storeA na nn nc ba bn bc).size = 2 := rfl
theorem storeA_one (na : Option Addr) (nn nc : Nat) (ba : Option Addr) (bn bc : Nat) : (storeA na nn nc ba bn bc).all (·.oneCell') = true := by simp [storeA, Value.oneCell']

set_option maxRecDepth 1000000 in
set_option maxHeartbeats 2000000 in
theorem awake18_any (hL : LoadNilC) (hK : LookNilC) (w : World) (hm : Mx w) (ht : Tabs w) : Calls Tryz.prog 6 #[] w (TrueAnd w) := by
  obtain ⟨ZA, hZA⟩ : ∃ ZA, ZA = storeA none 0 0 none 0 0 := ⟨_, rfl⟩
  obtain ⟨FA, hFA⟩ : ∃ FA : Array Value, FA = #[.slice none 0 0, .slice none 0 0, .slice none 0 0] := ⟨_, rfl⟩
  have HL : Hid (∀ w, Calls Tryz.prog 27 #[.pointer none] w fun e w' => e = .returned (.tuple #[.agg ZA, .int .i64 1]) ∧ Below w.heap.size w w') := fun w => by rw [hZA]; exact hL w
  have HK : Hid (∀ w, Mx w → Tabs w → Calls Tryz.prog 12 #[.agg #[.slice none 0 0, .slice none 0 0], .agg #[.int .i64 0, .slice none 0 0, .slice none 0 0]] w fun e w' => e = .returned (.tuple #[.agg FA, .int .i64 1]) ∧ Below w.heap.size w w') := fun w h1 h2 => by rw [hFA]; exact hK w h1 h2
  have HM := Lib.hid hm
  have HT := Lib.hid ht
  have HZs : Hid (ZA.size = 2) := by show _ = _; rw [hZA]; rfl
  have HZ1 : Hid (ZA.all (·.oneCell') = true) := by show _ = _; rw [hZA]; exact storeA_one _ _ _ _ _ _
  have HFs : Hid (FA.size = 3) := by show _ = _; rw [hFA]; rfl
  have HF1 : Hid (FA.all (·.oneCell') = true) := by show _ = _; rw [hFA]; simp [Value.oneCell']
  clear hL hK hZA hFA hm ht
  go_enter Tryz.func6, Tryz.ntmps6
  go_upto_region 2 with (first
    | (go_at_call 27; refine (HL.out _).mono ?_; rintro e w1 ⟨rfl, b1⟩; have HB1 := Lib.hid b1; clear b1; have HALL : Hid (∀ c : Array Value, (w1.alloc (.cells c 34)).heap[w1.heap.size]? = some (.cells c 34 (0, 0))) := (fun c => heap_alloc_last w1 _); have HALB : Hid (∀ c : Array Value, Below w1.heap.size w1 (w1.alloc (.cells c 34))) := (fun c => (Below.refl _ _).alloc (Nat.le_refl _) _))
    | (refine wpList_store_arr rfl 34 _ _ rfl w1.heap.size ZA rfl rfl 34 _ (HALL.out _) (by rw [HZs.out]; kernel_rfl) (by rw [HZs.out]; rfl) HZ1.out ?_; intro w2 HC2 hf2; have HB12 : Hid (Below w1.heap.size w1 w2) := (HALB.out _).trans (hf2.out.below (HALB.out _).size (fun k hk e => by omega)); clear hf2 HALL HALB))
  have HB2 : Hid (Below w.heap.size w w2) := HB1.out.trans (HB12.out.mono HB1.out.size)
  clear HC2
  go_upto_region 3 with (first
    | (go_at_call 12; refine (HK.out _ (HM.out.below HB2.out) (HT.out.below HB2.out)).mono ?_; rintro e w3 ⟨rfl, b3⟩; have HB3 := Lib.hid b3; clear b3; have HALL : Hid (∀ c : Array Value, (w3.alloc (.cells c 43)).heap[w3.heap.size]? = some (.cells c 43 (0, 0))) := (fun c => heap_alloc_last w3 _); have HALB : Hid (∀ c : Array Value, Below w3.heap.size w3 (w3.alloc (.cells c 43))) := (fun c => (Below.refl _ _).alloc (Nat.le_refl _) _))
    | (refine wpList_store_arr rfl 43 _ _ rfl w3.heap.size FA rfl rfl 43 _ (HALL.out _) (by rw [HFs.out]; kernel_rfl) (by rw [HFs.out]; rfl) HF1.out ?_; intro w4 HC4 hf4; have HB34 : Hid (Below w3.heap.size w3 w4) := (HALB.out _).trans (hf4.out.below (HALB.out _).size (fun k hk e => by omega)); clear hf4 HALL HALB))
  have HB4 : Hid (Below w.heap.size w w4) := HB2.out.trans ((HB3.out.trans (HB34.out.mono HB3.out.size)).mono HB2.out.size)
  clear HC4
  go_wp2_with fail
  go_ret
  exact ⟨rfl, HB4.out⟩
set_option maxRecDepth 1000000 in
theorem loadNil : LoadNilC := fun w => by
  have HB0 : Hid (Below w.heap.size w (w.alloc (.cells #[.slice none 0 0, .slice none 0 0] 34))) := (Below.refl _ _).alloc (Nat.le_refl _) _
  have HZ0 : Hid ((w.alloc (.cells #[.slice none 0 0, .slice none 0 0] 34)).heap[w.heap.size]? = some (.cells #[.slice none 0 0, .slice none 0 0] 34 (0, 0))) := heap_alloc_last w _
  go_enter Tryz.func27, Tryz.ntmps27
  go_upto_region 1 with fail
  change Code.wp _ _ _ _ (w.alloc (.cells #[.slice none 0 0, .slice none 0 0] 34))
  obtain ⟨w1, hw1⟩ : ∃ w1, w1 = w.alloc (.cells #[.slice none 0 0, .slice none 0 0] 34) := ⟨_, rfl⟩
  rw [← hw1] at HZ0 HB0 ⊢
  obtain ⟨W0, hW0⟩ : ∃ W0, W0 = w.heap.size := ⟨_, rfl⟩
  rw [← hW0] at HZ0 ⊢
  have hw0 : w.heap.size ≤ W0 := by omega
  clear hw1 hW0
  go_wp2_with (refine wpList_store_arr rfl 34 _ _ rfl W0 (storeA none 0 0 none 0 0) rfl rfl 34 _ HZ0.out (by kernel_rfl) rfl (by kernel_rfl) ?_; intro w9 HC9 hf9)
  exact bodyPost_ret (v := .tuple #[.agg (storeA none 0 0 none 0 0), .int .i64 1]) (results_cell_one rfl _ _ W0 34 (storeA none 0 0 none 0 0) (0, 0) _ rfl HC9.out Tryz.underlying34 rfl (by kernel_rfl) (.int .i64 1) rfl) rfl ⟨rfl, HB0.out.trans (hf9.out.below HB0.out.size fun k hk e => by omega)⟩
set_option maxRecDepth 1000000 in
set_option maxHeartbeats 2000000 in
theorem lookNil : LookNilC := fun w hm ht => by
  have hsA : SetAt w ⟨0, [], []⟩ none 0 none 0 := ⟨i64R_small 0 (by decide), ⟨fun x hx => (by cases hx), by simp, by unfold maxLen; omega, .inl rfl⟩, ⟨fun x hx => (by cases hx), by simp, by unfold maxLen; omega, .inl rfl⟩⟩
  have hnf : ¬ FormedP ⟨0, [], []⟩ := fun h => by
    have := h.1
    simp at this
  obtain ⟨ZA, hZA⟩ : ∃ ZA, ZA = storeA none 0 0 none 0 0 := ⟨_, rfl⟩
  obtain ⟨SA, hSA⟩ : ∃ SA, SA = rowArr 3 (setV ⟨0, [], []⟩ none 0 none 0) := ⟨_, rfl⟩
  have VSA : Hid (rowArr 3 (setV ⟨0, [], []⟩ none 0 none 0) = SA) := hSA.symm
  have HSZ : Hid (ZA.size = 2) := by show _ = _; rw [hZA]; rfl
  have HSS : Hid (SA.size = 3) := by show _ = _; rw [hSA]; rfl
  have hHN : ∀ w', Below w.heap.size w w' → Calls Tryz.prog 33 #[.agg SA] w' fun e w2 => e = .returned (.tuple #[.agg z8A, .int .i64 1]) ∧ Below w'.heap.size w' w2 := fun w' h => by
    rw [hSA]
    refine (name14_any ⟨0, [], []⟩ none 0 none 0 w' (hsA.below h) (hm.below h) (ht.below h) fun _ => rfl).mono ?_
    rintro e w2 ⟨⟨_, h2⟩, h3⟩
    exact ⟨h2 hnf, h3⟩
  have HHN := Lib.hid hHN
  show Calls _ _ #[.agg (storeA none 0 0 none 0 0), .agg (rowArr 3 (setV ⟨0, [], []⟩ none 0 none 0))] _ _
  rw [← hZA, ← hSA]
  have hq1 : ((w.alloc (.cells ZA 34)).alloc (.cells SA 30)).heap[w.heap.size + 1]? = some (.cells SA 30 (0, 0)) := by
    have h0 : (w.alloc (.cells ZA 34)).heap.size = w.heap.size + 1 := by simp
    rw [← h0]; exact heap_alloc_last _ _
  have hb1 : Below w.heap.size w ((w.alloc (.cells ZA 34)).alloc (.cells SA 30)) := ((Below.refl _ _).alloc (Nat.le_refl _) _).alloc (by simp) _
  have hsz : ((w.alloc (.cells ZA 34)).alloc (.cells SA 30)).heap.size = w.heap.size + 1 + 1 := by simp
  have HQ1 : Hid ((((w.alloc (.cells ZA 34)).alloc (.cells SA 30)).alloc (.cells #[.slice none 0 0, .slice none 0 0, .slice none 0 0] 43)).heap[w.heap.size + 1]? = some (.cells SA 30 (0, 0))) := by
    have h2 : Below _ _ (((w.alloc (.cells ZA 34)).alloc (.cells SA 30)).alloc (.cells #[.slice none 0 0, .slice none 0 0, .slice none 0 0] 43)) := (Below.refl ((w.alloc (.cells ZA 34)).alloc (.cells SA 30)).heap.size _).alloc (Nat.le_refl _) _
    exact (h2.block _ (Array.getElem?_eq_some_iff.1 hq1).1).trans hq1
  have HQ2 : Hid ((((w.alloc (.cells ZA 34)).alloc (.cells SA 30)).alloc (.cells #[.slice none 0 0, .slice none 0 0, .slice none 0 0] 43)).heap[w.heap.size + 1 + 1]? = some (.cells #[.slice none 0 0, .slice none 0 0, .slice none 0 0] 43 (0, 0))) := by
    show _ = _
    rw [← hsz]; exact heap_alloc_last _ _
  have HB2 : Hid (Below w.heap.size w (((w.alloc (.cells ZA 34)).alloc (.cells SA 30)).alloc (.cells #[.slice none 0 0, .slice none 0 0, .slice none 0 0] 43))) := hb1.alloc hb1.size _
  clear hsA hnf hHN hZA hSA hq1 hb1 hsz hm ht
  go_enter Tryz.func12, Tryz.ntmps12
  go_upto_region 1 with fail
  change Code.wp _ _ _ _ (((w.alloc (.cells ZA 34)).alloc (.cells SA 30)).alloc (.cells #[.slice none 0 0, .slice none 0 0, .slice none 0 0] 43))
  obtain ⟨B, hB⟩ : ∃ B, B = w.heap.size := ⟨_, rfl⟩
  have hwB : w.heap.size ≤ B := by omega
  rw [← hB] at HQ1 HQ2 ⊢
  generalize ((w.alloc (.cells ZA 34)).alloc (.cells SA 30)).alloc (.cells #[.slice none 0 0, .slice none 0 0, .slice none 0 0] 43) = w1 at *
  clear hB
  have HC : Hid (∀ j, j < 3 → w1.cell? ⟨B + 1, 0 + j, none⟩ = some (setV ⟨0, [], []⟩ none 0 none 0 j)) := fun j hj => by
    rw [cell_of_block HQ1.out, Nat.zero_add, ← VSA.out]
    simp [rowArr, hj]
  go_upto_region 2 with (first
    | (refine wpList_load_v (by rfl) 30 _ rfl (B + 1) 0 3 _ SA VSA.out rfl _ HC.out Tryz.underlying30 rfl (by kernel_rfl) ?_)
    | (go_at_call 33; (with_reducible refine (HHN.out _ HB2.out).mono ?_); rintro e w3 ⟨rfl, b3⟩; have HB3 := Lib.hid b3; clear b3)
    | (refine wpList_store_arr rfl 64 _ _ rfl w3.heap.size z8A rfl rfl 64 _ (heap_alloc_last w3 _) (by kernel_rfl) rfl (by kernel_rfl) ?_; intro w4 HC4 hf4))
  have HB34 : Hid (Below w3.heap.size w3 w4) := by
    have h0 : ∀ o, Below w3.heap.size w3 (w3.alloc o) := fun o => (Below.refl w3.heap.size w3).alloc (Nat.le_refl _) o
    exact (h0 _).trans (hf4.out.below (h0 _).size fun k hk e => by omega)
  have HB14 : Hid (Below w1.heap.size w1 w4) := HB3.out.trans (HB34.out.mono HB3.out.size)
  have HQ4 : Hid (w4.heap[B + 1 + 1]? = some (.cells #[.slice none 0 0, .slice none 0 0, .slice none 0 0] 43 (0, 0))) := (HB14.out.block _ (Array.getElem?_eq_some_iff.1 HQ2.out).1).trans HQ2.out
  have HB4 : Hid (Below w.heap.size w w4) := HB2.out.trans (HB14.out.mono HB2.out.size)
  clear HC4 hf4 HC HHN HB3 HB34 HB14 HQ2 HQ1 HB2
  go_wp2_with (refine wpList_store_arr rfl 43 _ _ rfl (B + 1 + 1) #[.slice none 0 0, .slice none 0 0, .slice none 0 0] rfl rfl 43 _ HQ4.out (by kernel_rfl) rfl (by kernel_rfl) ?_; intro w9 HC9 hf9)
  exact bodyPost_ret (v := .tuple #[.agg #[.slice none 0 0, .slice none 0 0, .slice none 0 0], .int .i64 1]) (results_cell_one rfl _ _ (B + 1 + 1) 43 #[.slice none 0 0, .slice none 0 0, .slice none 0 0] (0, 0) _ rfl HC9.out Tryz.underlying43 rfl (by kernel_rfl) (.int .i64 1) rfl) rfl ⟨rfl, HB4.out.trans (hf9.out.below HB4.out.size fun k hk e => by omega)⟩
end Go.Proofs.YtfgaohilpbocbaaGreatDoor
end

section
namespace Go.Proofs.YtfgaohilpbocbaaGreatDoor
open Go.ChangeShapes Go.WideShapes Go.ChangeAt Go.RowKit Go.Joins
set_option linter.unusedVariables false

/-- A slice of strings that reads as l. -/
structure Strs (w : World) (a : Option Addr) (cap : Nat) (l : List (List Nat)) : Prop where
  len : l.length ≤ cap
  most : cap ≤ maxLen
  byte : ∀ x ∈ l, IsByte x ∧ x.length ≤ 140737488355328
  nil' : a = none → l = []
  here : l = [] ∨ ∃ b off, a = some ⟨b, off, none⟩ ∧ b < w.heap.size ∧ ∀ i (h : i < l.length), w.cell? ⟨b, off + i, none⟩ = some (.string (strOf l[i]))
theorem Strs.below {w w' : World} {a : Option Addr} {cap : Nat} {l : List (List Nat)} (h : Strs w a cap l) (k : Below w.heap.size w w') : Strs w' a cap l :=
  ⟨h.len, h.most, h.byte, h.nil', h.here.imp id fun ⟨b, off, e, hb, hc⟩ => ⟨b, off, e, Nat.lt_of_lt_of_le hb k.size, fun i hi => (k.cell (p := ⟨b, off + i, Option.none⟩) hb).trans (hc i hi)⟩⟩
theorem strs_one {w : World} {a : Option Addr} {cap : Nat} {l : List (List Nat)} (h : Strs w a cap l) {i : Nat} (hi : i < l.length) : ∃ b off, a = some ⟨b, off, none⟩ ∧ b < w.heap.size ∧ w.cell? ⟨b, off + i, none⟩ = some (.string (strOf l[i])) := by
  rcases h.here with rfl | ⟨b, off, e, hb, hc⟩
  · simp at hi
  · exact ⟨b, off, e, hb, hc i hi⟩
theorem Strs.lt {w : World} {a : Option Addr} {cap : Nat} {l : List (List Nat)} (h : Strs w a cap l) : l.length ≤ 9223372036854775807 := by
  have h1 := h.len; have h2 := h.most; unfold maxLen at h2; omega
/-- How many bytes slices have. -/
def totN (R : Rws) : Nat := (R.map List.length).sum
theorem totN_next {R : Rws} {k : Nat} (h : k < R.length) : totN (R.take (k + 1)) = totN (R.take k) + R[k].length := by
  unfold totN
  rw [List.take_succ_eq_append_getElem h, List.map_append, List.sum_append]
  simp
theorem totN_take (R : Rws) (k : Nat) : totN (R.take k) ≤ totN R := by
  unfold totN
  conv => rhs; rw [← List.take_append_drop k R, List.map_append, List.sum_append]
  omega

/-! What is found in files. -/

theorem Finds.one {l : List Nat} {i : Nat} {fs : List (Nat × Pk)} (h : Finds l i fs) : ∀ {fs'}, Finds l i fs' → fs = fs' := by
  induction h with
  | stop h => intro fs' h'; exact (finds_stop h' h).symm
  | next h hd k ih => intro fs' h'; exact ih (finds_next h' h hd)
  | here h hd k ih =>
    intro fs' h'
    obtain ⟨r, rfl, k'⟩ := finds_here h' h hd
    rw [ih k']
inductive AllFound : Rws → List Pk → Prop
  | nil : AllFound [] []
  | snoc {R : Rws} {P : List Pk} {r : List Nat} {fs : List (Nat × Pk)} (h : AllFound R P) (hf : Finds r 0 fs) : AllFound (R ++ [r]) (P ++ fs.map (·.2))
theorem AllFound.one {R : Rws} {P : List Pk} (h : AllFound R P) : ∀ {P'}, AllFound R P' → P = P' := by
  induction h with
  | nil =>
    intro P' h'
    generalize hR : ([] : Rws) = R at h'
    cases h' with
    | nil => rfl
    | snoc _ _ => simp at hR
  | @snoc R P r fs h hf ih =>
    intro P' h'
    generalize hR : R ++ [r] = R' at h'
    cases h' with
    | nil => simp at hR
    | @snoc R2 P2 r2 fs2 h2 hf2 =>
      obtain ⟨rfl, e⟩ := List.append_inj' hR rfl
      cases e
      rw [ih h2, hf.one hf2]
/-- Each packet takes its place. -/
theorem Finds.room {l : List Nat} (hb : IsByte l) {i : Nat} {fs : List (Nat × Pk)} (h : Finds l i fs) : (fs = [] ∨ i + 49 * fs.length ≤ l.length) ∧ ∀ x ∈ fs, pkOk x.2 ∧ PkIn x.2 ∧ (pkBytes x.2).length ≤ l.length := by
  induction h with
  | stop h => exact ⟨.inl rfl, fun x hx => (by cases hx)⟩
  | next h hd k ih =>
    refine ⟨?_, ih.2⟩
    rcases ih.1 with h1 | h1
    · exact .inl h1
    · exact .inr (by omega)
  | @here i p n fs h hd k ih =>
    have hbg := dec_ok (fun x hx => hb x (List.mem_of_mem_drop hx)) hd
    obtain ⟨n1, n2, _⟩ := begins_le hbg
    obtain ⟨b1, b2, b3, _⟩ := hbg
    rw [List.length_drop] at n1
    refine ⟨.inr ?_, fun x hx => ?_⟩
    · rw [List.length_cons]
      rcases ih.1 with h1 | h1
      · rw [h1, List.length_nil]; omega
      · omega
    · rcases List.mem_cons.1 hx with rfl | hx
      · exact ⟨b2, b1, by show (pkBytes p).length ≤ _; omega⟩
      · exact ih.2 x hx
theorem sums_few {p : Pk} (hi : PkIn p) (ho : pkOk p) : 38 * p.sums.length ≤ (pkBytes p).length := by
  unfold pkBytes
  rw [bytes_len hi.set8]
  rcases ho with h | h | h | h
  · rw [h.2.2.2.2.2.2.1]; simp
  · rw [h.2.2.2.2.2.2.1]; simp
  · have hk : p.kind = 3 := h.1
    have hb : pkBody p = sumsN p.index p.sums := by unfold pkBody; rw [hk]; rfl
    rw [hb]
    unfold sumsN
    rw [List.length_append, List.length_append, sums_len hi.sums]
    omega
  · rw [h.2.2.2.2.1]; simp
theorem AllFound.room {R : Rws} {P : List Pk} (h : AllFound R P) (hb : ∀ x ∈ R, IsByte x) : 49 * P.length ≤ totN R ∧ ∀ p ∈ P, PkIn p ∧ pkOk p ∧ 38 * p.sums.length ≤ totN R := by
  induction h with
  | nil => exact ⟨by simp, fun p hp => (by cases hp)⟩
  | @snoc R P r fs h hf ih =>
    obtain ⟨i1, i2⟩ := ih fun x hx => hb x (List.mem_append_left _ hx)
    obtain ⟨j1, j2⟩ := hf.room (hb r (by simp))
    have ht : totN (R ++ [r]) = totN R + r.length := by unfold totN; simp
    rw [ht]
    refine ⟨?_, fun p hp => ?_⟩
    · rw [List.length_append, List.length_map]
      rcases j1 with j1 | j1
      · rw [j1, List.length_nil]; omega
      · omega
    · rcases List.mem_append.1 hp with hp | hp
      · obtain ⟨k1, k2, k3⟩ := i2 p hp
        exact ⟨k1, k2, by omega⟩
      · obtain ⟨x, hx, rfl⟩ := List.mem_map.1 hp
        obtain ⟨k1, k2, k3⟩ := j2 x hx
        have := sums_few k2 k1
        exact ⟨k2, k1, by omega⟩

/-! Slices of sets. -/

/-- A set, and where its files and slices lie. -/
structure Sw where
  S : St
  fa : Option Addr
  fc : Nat
  sa : Option Addr
  sc : Nat
def swV (x : Sw) (j : Nat) : Value := setV x.S x.fa x.fc x.sa x.sc j
structure SetSl (w : World) (a : Option Addr) (cap : Nat) (T : List Sw) : Prop where
  len : T.length ≤ cap
  most : cap ≤ maxLen
  here : T = [] ∨ ∃ b off, a = some ⟨b, off, none⟩ ∧ b < w.heap.size ∧ ∀ i (h : i < T.length) k, k < 3 → w.cell? ⟨b, off + i * 3 + k, none⟩ = some (swV T[i] k)
  sets : ∀ x ∈ T, SetAt w x.S x.fa x.fc x.sa x.sc ∧ (x.sa = none → x.sc = 0)
theorem SetSl.below {w w' : World} {a : Option Addr} {cap : Nat} {T : List Sw} (h : SetSl w a cap T) (k : Below w.heap.size w w') : SetSl w' a cap T :=
  ⟨h.len, h.most, h.here.imp id fun ⟨b, off, e, hb, hc⟩ => ⟨b, off, e, Nat.lt_of_lt_of_le hb k.size, fun i hi j hj => (k.cell (p := ⟨b, off + i * 3 + j, none⟩) hb).trans (hc i hi j hj)⟩, fun x hx => ⟨(h.sets x hx).1.below k, (h.sets x hx).2⟩⟩
theorem sets_one {w : World} {a : Option Addr} {cap : Nat} {T : List Sw} (h : SetSl w a cap T) {i : Nat} (hi : i < T.length) : ∃ b off, a = some ⟨b, off, none⟩ ∧ b < w.heap.size ∧ ∀ k, k < 3 → w.cell? ⟨b, off + i * 3 + k, none⟩ = some (swV T[i] k) := by
  rcases h.here with rfl | ⟨b, off, e, hb, hc⟩
  · simp at hi
  · exact ⟨b, off, e, hb, hc i hi⟩
theorem SetSl.lt {w : World} {a : Option Addr} {cap : Nat} {T : List Sw} (h : SetSl w a cap T) : T.length ≤ 9223372036854775807 := by
  have h1 := h.len; have h2 := h.most; unfold maxLen at h2; omega

/-! The contracts. -/

/-- One name is ahead of another, as the model compares strings. -/
def ltN (l m : List Nat) : Bool := Op.bytesLess (strOf l).toList (strOf m).toList
def PacketsPost (R : Rws) (w : World) (e : Ending) (w' : World) : Prop := ∃ v F, e = .returned v ∧ PSt w w' v F ∧ AllFound R (F.map fun f => f.p)
def PacketsC : Prop := ∀ (na : Option Addr) (nc : Nat) (N : List (List Nat)) (ba : Option Addr) (bc : Nat) (R : Rws) (w : World), Strs w na nc N → Rs w.heap.size w ba bc R → R.length ≤ 20 → totN R ≤ 20000 → Tabs w →
  Calls Tryz.prog 16 #[storeV na N.length nc ba R.length bc] w (PacketsPost R w)
def SetsPost (R : Rws) (w : World) (e : Ending) (w' : World) : Prop := Below w.heap.size w w' ∧ ∃ a cap T, e = .returned (.slice a (T : List Sw).length cap) ∧ SetSl w' a cap T ∧
  (∀ F : List Pw, AllFound R (F.map fun f => f.p) → ∀ x ∈ T, Gets F (nameS x.S) x.S) ∧ T.length ≤ 500 ∧ (∀ i (h : i + 1 < T.length), ltN (nameS T[i].S) (nameS T[i + 1].S) = true)
def SetsC : Prop := ∀ (na : Option Addr) (nc : Nat) (N : List (List Nat)) (ba : Option Addr) (bc : Nat) (R : Rws) (w : World), Strs w na nc N → Rs w.heap.size w ba bc R → R.length ≤ 20 → totN R ≤ 20000 → Mx w → Tabs w →
  Calls Tryz.prog 15 #[storeV na N.length nc ba R.length bc] w (SetsPost R w)
end Go.Proofs.YtfgaohilpbocbaaGreatDoor
end

section
namespace Go.Proofs.YtfgaohilpbocbaaGreatDoor
open Go.ChangeShapes Go.WideShapes Go.ChangeAt Go.RowKit Go.Joins
set_option linter.unusedVariables false

def FewP (N : List (List Nat)) (R : Rws) : Prop := R.length ≤ 20 ∧ totN R ≤ 20000 ∧ N.length ≤ 20
/-- A store in a box. -/
structure StBox (w : World) (b : Nat) (na : Option Addr) (nn nc : Nat) (ba : Option Addr) (bn bc : Nat) : Prop where
  blk : w.heap[b]? = some (.cells (storeA na nn nc ba bn bc) 34 (0, 0))
theorem StBox.below {w w' : World} {b : Nat} {na : Option Addr} {nn nc : Nat} {ba : Option Addr} {bn bc : Nat} (h : StBox w b na nn nc ba bn bc) (k : Below w.heap.size w w') : StBox w' b na nn nc ba bn bc :=
  ⟨(k.block b (Array.getElem?_eq_some_iff.1 h.blk).1).trans h.blk⟩
theorem StBox.c0 {w : World} {b : Nat} {na : Option Addr} {nn nc : Nat} {ba : Option Addr} {bn bc : Nat} (h : StBox w b na nn nc ba bn bc) : w.cell? ⟨b, 0, none⟩ = some (.slice na nn nc) := by rw [cell_of_block h.blk]; rfl
theorem StBox.c1 {w : World} {b : Nat} {na : Option Addr} {nn nc : Nat} {ba : Option Addr} {bn bc : Nat} (h : StBox w b na nn nc ba bn bc) : w.cell? ⟨b, 1, none⟩ = some (.slice ba bn bc) := by rw [cell_of_block h.blk]; rfl

set_option maxRecDepth 100000 in
set_option maxHeartbeats 4000000 in
theorem few18_any (na : Option Addr) (nc : Nat) (N : List (List Nat)) (ba : Option Addr) (bc : Nat) (R : Rws) (w : World) (hN : Strs w na nc N) (hR : Rs w.heap.size w ba bc R) (hlen : ∀ x ∈ R, x.length ≤ 140737488355328) :
    Calls Tryz.prog 10 #[storeV na N.length nc ba R.length bc] w fun e w' => ∃ r : Bool, (e = .returned (.bool r) ∧ Below w.heap.size w w') ∧ (r = true ↔ FewP N R) := by
  have HR := Lib.hid hR
  have HLE := Lib.hid hlen
  have hnl := hN.lt
  have hrl := hR.lt
  have hX : StBox (w.alloc (.cells (storeA na N.length nc ba R.length bc) 34)) w.heap.size na N.length nc ba R.length bc := ⟨heap_alloc_last w _⟩
  have hb0 : Below w.heap.size w (w.alloc (.cells (storeA na N.length nc ba R.length bc) 34)) := (Below.refl _ _).alloc (Nat.le_refl _) _
  have HX := Lib.hid hX
  have HB := Lib.hid hb0
  have hsv : storeV na N.length nc ba R.length bc = .agg (storeA na N.length nc ba R.length bc) := rfl
  obtain ⟨arr, harr⟩ : ∃ arr, arr = storeA na N.length nc ba R.length bc := ⟨_, rfl⟩
  rw [hsv]
  rw [← harr] at HX HB ⊢
  clear hN hR hlen hX hb0 hsv harr
  go_enter Tryz.func10, Tryz.ntmps10
  go_upto_region 1 with fail
  obtain ⟨b, hb⟩ : ∃ b, b = w.heap.size := ⟨_, rfl⟩
  rw [← hb] at HX ⊢
  generalize w.alloc (.cells arr 34) = w1 at *
  clear hb
  have c1 := HX.out.c1
  have HJ0 : Hid (totN (R.take 0) = 0) := rfl
  have HB0 : Hid (Below w1.heap.size w1 w1) := Below.refl _ _
  go_wp2_with fail
  clear c1
  go_loopw [3, 8] (fun n i wr => ∃ k M : Nat, k ≤ R.length ∧ i = .int .i64 k ∧ n = .int .i64 M ∧ k ≤ 20 ∧ M ≤ 20000 ∧ Hid (totN (R.take k) = M) ∧ Hid (Below w1.heap.size w1 wr)) (fun _ i _ => R.length - (intOf i).toNat)
  case atStart => exact ⟨0, 0, by omega, rfl, rfl, by omega, by omega, HJ0, HB0⟩
  case round =>
    obtain ⟨k, M, hk, rfl, rfl, hk20, hM, HJ, HBr⟩ := hrel
    clear HJ0 HB0
    by_cases hlt : k < R.length
    · have HRr := Lib.hid ((HR.out.keep (Nat.le_refl _) (Keep.of_below HB.out)))
      have hb12 : Below w.heap.size w wr := HB.out.trans (HBr.out.mono HB.out.size)
      obtain ⟨g, off, rfl, hbl, hrr⟩ := (HR.out.keep (Nat.le_refl _) (Keep.of_below hb12)).some hlt
      obtain ⟨ai, ci, hck, hrw⟩ := hrr k hlt
      have hm0 : R[k].length ≤ 140737488355328 := HLE.out _ (List.getElem_mem hlt)
      have HNX : Hid (totN (R.take (k + 1)) = M + R[k].length) := by show _ = _; rw [totN_next hlt, HJ.out]
      have HFN : Hid (20 ≤ k ∨ 20000 < M + R[k].length → ¬ FewP N R) := fun h hf => by
        have h1 := totN_take R (k + 1)
        have h2 := hf.1
        have h3 := hf.2.1
        have h4 := HNX.out
        omega
      have HXr := Lib.hid (HX.out.below HBr.out)
      have c1 := HXr.out.c1
      obtain ⟨m, hm⟩ : ∃ m, m = R[k].length := ⟨_, rfl⟩
      rw [← hm] at hck hm0 HNX HFN
      have i1 : (0 : Int) ≤ (k : Int) := by omega
      have i2 : (k : Int) < (R.length : Int) := by omega
      have HBW := Lib.hid hb12
      clear hrr hrw hm hb12
      by_cases q1 : 20 ≤ k
      · have d1 : decide ((20 : Int) ≤ (k : Int)) = true := decide_eq_true (by omega)
        have d2 : decide (20 ≤ k) = true := decide_eq_true q1
        have HRR : Hid (¬ FewP N R) := HFN.out (.inl q1)
        go_wp2_with fail
        go_ret
        exact ⟨false, ⟨rfl, HBW.out⟩, ⟨fun h => (by cases h), fun h => absurd h HRR.out⟩⟩
      · have d1 : decide ((20 : Int) ≤ (k : Int)) = false := decide_eq_false (by omega)
        have d2 : decide (20 ≤ k) = false := decide_eq_false q1
        by_cases q2 : 20000 < M + m
        · have d3 : decide ((20000 : Int) < (M : Int) + (m : Int)) = true := decide_eq_true (by omega)
          have HRR : Hid (¬ FewP N R) := HFN.out (.inr q2)
          go_wp2_with fail
          go_ret
          exact ⟨false, ⟨rfl, HBW.out⟩, ⟨fun h => (by cases h), fun h => absurd h HRR.out⟩⟩
        · have d3 : decide ((20000 : Int) < (M : Int) + (m : Int)) = false := decide_eq_false (by omega)
          go_wp2_with fail
          go_roundw
          case rel => exact ⟨k + 1, M + m, by omega, by go_num, by go_num, by omega, by omega, HNX, HBr⟩
          case measure => simp [intOf]; omega
    · obtain rfl : k = R.length := by omega
      rw [List.take_length] at HJ
      have HXr := Lib.hid (HX.out.below HBr.out)
      have c0 := HXr.out.c0
      have HBW : Hid (Below w.heap.size w wr) := HB.out.trans (HBr.out.mono HB.out.size)
      have HT : Hid (totN R ≤ 20000) := by show _ ≤ _; rw [HJ.out]; exact hM
      go_wp2_with fail
      go_ret
      refine ⟨_, ⟨rfl, HBW.out⟩, ?_⟩
      rw [decide_eq_true_iff]
      exact ⟨fun h => ⟨hk20, HT.out, by omega⟩, fun h => by have := h.2.2; omega⟩
end Go.Proofs.YtfgaohilpbocbaaGreatDoor
end

section
namespace Go.Proofs.YtfgaohilpbocbaaGreatDoor
open Go.ChangeShapes Go.WideShapes Go.ChangeAt Go.RowKit Go.Joins
set_option linter.unusedVariables false

def FewS (S : St) : Prop := (∀ j, j < S.files.length → j < 12 ∧ (S.files.getD j zFil).name.length ≤ 300) ∧ S.slices.length ≤ 100
set_option maxRecDepth 1000000 in
set_option maxHeartbeats 8000000 in
theorem sameSet_any (S : St) (fa : Option Addr) (fc : Nat) (sa : Option Addr) (sc : Nat) (ga : Option Addr) (gc : Nat) (ta : Option Addr) (tc : Nat) (w : World) (hs : SetAt w S fa fc sa sc) (ht : SetAt w S ga gc ta tc) :
    Calls Tryz.prog 21 #[.agg (rowArr 3 (setV S fa fc sa sc)), .agg (rowArr 3 (setV S ga gc ta tc))] w (TrueAnd w) := by
  have mixed : Tryz.prog.follows .mixedOrders = true := by kernel_rfl
  have hB0 : Below w.heap.size w (w.alloc (.cells (rowArr 3 (setV S fa fc sa sc)) 30)) := (Below.refl _ _).alloc (Nat.le_refl _) _
  have hB1 : Below w.heap.size w ((w.alloc (.cells (rowArr 3 (setV S fa fc sa sc)) 30)).alloc (.cells (rowArr 3 (setV S ga gc ta tc)) 30)) := hB0.alloc hB0.size _
  have hx0 := SetBox.new w S fa fc sa sc
  have HY := Lib.hid (SetBox.new (w.alloc (.cells (rowArr 3 (setV S fa fc sa sc)) 30)) S ga gc ta tc)
  have HX := Lib.hid (hx0.below (w' := (w.alloc (.cells (rowArr 3 (setV S fa fc sa sc)) 30)).alloc (.cells (rowArr 3 (setV S ga gc ta tc)) 30)) ((Below.refl _ _).alloc (Nat.le_refl _) _))
  have HS := Lib.hid (hs.below hB1)
  have HT := Lib.hid (ht.below hB1)
  have HB := Lib.hid hB1
  have hs1 : (w.alloc (.cells (rowArr 3 (setV S fa fc sa sc)) 30)).heap.size = w.heap.size + 1 := by simp
  have hfl := hs.files.lt
  have hsl := hs.slices.lt
  obtain ⟨sr1, sr2⟩ := hs.slice
  obtain ⟨PQ, hPQ⟩ : ∃ PQ, PQ = TrueAnd w := ⟨_, rfl⟩
  have HR : Hid (∀ w', Below w.heap.size w w' → PQ (.returned (.bool true)) w') := by
    show ∀ _, _
    rw [hPQ]; exact fun w' h => ⟨rfl, h⟩
  rw [← hPQ]
  rw [hs1] at HY
  obtain ⟨arr, harr⟩ : ∃ arr, arr = rowArr 3 (setV S fa fc sa sc) := ⟨_, rfl⟩
  obtain ⟨brr, hbrr⟩ : ∃ brr, brr = rowArr 3 (setV S ga gc ta tc) := ⟨_, rfl⟩
  rw [← harr, ← hbrr] at HX HY HS HT HB
  rw [← harr, ← hbrr]
  clear harr hbrr hB0 hB1 hs ht hPQ hs1 hx0
  go_enter Tryz.func21, Tryz.ntmps21
  go_upto_region 1 with fail
  change Code.wp _ _ _ _ ((w.alloc (.cells arr 30)).alloc (.cells brr 30))
  obtain ⟨b, hb⟩ : ∃ b, b = w.heap.size := ⟨_, rfl⟩
  rw [← hb] at HX HY ⊢
  generalize (w.alloc (.cells arr 30)).alloc (.cells brr 30) = w1 at *
  clear hb
  have c0 := HX.out.c0
  have c1 := HX.out.c1
  have c2 := HX.out.c2
  have d0 := HY.out.c0
  have d1 := HY.out.c1
  have d2 := HY.out.c2
  go_upto_region 3 with fail
  go_wp2_with fail
  clear c0 c1 c2 d0 d1 d2
  have HW0 : Hid (Below w1.heap.size w1 w1) := Below.refl _ _
  go_loopw [33] (fun i wr => ∃ k : Nat, k ≤ S.files.length ∧ i = .int .i64 k ∧ Hid (Below w1.heap.size w1 wr)) (fun i _ => S.files.length - (intOf i).toNat)
  case atStart => exact ⟨0, by omega, rfl, HW0⟩
  case round =>
    obtain ⟨k, hk, rfl, HW⟩ := hrel
    clear HW0
    by_cases hlt : k < S.files.length
    · obtain ⟨b1, o1, rfl, hb1, hx⟩ := fils_one (HS.out.files.below HW.out) hlt
      obtain ⟨b2, o2, rfl, hb2, hy⟩ := fils_one (HT.out.files.below HW.out) hlt
      have hok := HS.out.files.rng _ (List.getElem_mem hlt)
      obtain ⟨f, hf⟩ : ∃ f, f = S.files[k] := ⟨_, rfl⟩
      rw [← hf] at hx hy hok
      obtain ⟨SX, hSX⟩ : ∃ SX, SX = rowArr 35 (filV f) := ⟨_, rfl⟩
      have VX : Hid (rowArr 35 (filV f) = SX) := hSX.symm
      have nX : ∀ w, (binOp .neq 98 (.agg SX) (.agg SX)).run Tryz.prog w = .ok (.bool false) w := fun w => by
        rw [run_neq_struct, hSX, eq_file hok hok 9997 w]
        simp [Result.andThen]
      have k1 := cell_regrown (HX.out.below HW.out).c1
      have k2 := cell_regrown (HY.out.below HW.out).c1
      have HXF := Lib.hid hx
      have HYF := Lib.hid hy
      clear hf hSX hok hx hy
      go_upto_region 6 with fail
      refine wp_region_quiet_below mixed (by kernel_rfl) ?_
      repeat (first
        | (refine wpQuiet_load_v (by rfl) 98 _ rfl b1 (o1 + k * 35) 35 _ SX VX.out rfl _ (fun w hw j hj => by obtain ⟨⟨d, os⟩, rfl⟩ := hw; exact ((below_regrown wr d os).cell (p := ⟨b1, o1 + k * 35 + j, none⟩) hb1).trans (HXF.out j hj)) und_file rfl (by kernel_rfl) ?_)
        | (refine wpQuiet_load_v (by rfl) 98 _ rfl b2 (o2 + k * 35) 35 _ SX VX.out rfl _ (fun w hw j hj => by obtain ⟨⟨d, os⟩, rfl⟩ := hw; exact ((below_regrown wr d os).cell (p := ⟨b2, o2 + k * 35 + j, none⟩) hb2).trans (HYF.out j hj)) und_file rfl (by kernel_rfl) ?_)
        | go_big_quiet_step (fail) | quiet_step (fail))
      refine wpQuiet_nil ?_
      intro _ hw'
      obtain ⟨⟨dq, osq⟩, hw''⟩ := hw'
      subst hw''
      have HW2 : Hid (Below w1.heap.size w1 (Go.Sort.grow (redrawn wr dq) osq)) := HW.out.trans ((below_regrown wr dq osq).mono HW.out.size)
      clear k1 k2 nX
      generalize Go.Sort.grow (redrawn wr dq) osq = w3 at *
      go_wp2_with fail
      go_roundw
      case rel => exact ⟨k + 1, by omega, by go_num, HW2⟩
      case measure => simp [intOf]; omega
    · obtain rfl : k = S.files.length := by omega
      have c2 := (HX.out.below HW.out).c2
      have d2 := (HY.out.below HW.out).c2
      go_wp2_with fail
      clear c2 d2
      have HWq : Hid (Below w1.heap.size w1 wr) := HW.out
      go_loopw [51] (fun i wr => ∃ k : Nat, k ≤ S.slices.length ∧ i = .int .i64 k ∧ Hid (Below w1.heap.size w1 wr)) (fun i _ => S.slices.length - (intOf i).toNat)
      case atStart => exact ⟨0, by omega, rfl, HWq⟩
      case round =>
        obtain ⟨k, hk, rfl, HW⟩ := hrel
        clear HWq
        by_cases hlt : k < S.slices.length
        · obtain ⟨b1, o1, rfl, hb1, hx0⟩ := sms_one (HS.out.slices.below HW.out) hlt
          obtain ⟨b2, o2, rfl, hb2, hy0⟩ := sms_one (HT.out.slices.below HW.out) hlt
          have hok := HS.out.slices.rng _ (List.getElem_mem hlt)
          have hx := smAt_cells hx0 hok
          have hy := smAt_cells hy0 hok
          obtain ⟨f, hf⟩ : ∃ f, f = S.slices[k] := ⟨_, rfl⟩
          rw [← hf] at hx hy hok
          obtain ⟨SX, hSX⟩ : ∃ SX, SX = rowArr 34 (smV f) := ⟨_, rfl⟩
          have VX : Hid (rowArr 34 (smV f) = SX) := hSX.symm
          have nX : ∀ w, (binOp .neq 52 (.agg SX) (.agg SX)).run Tryz.prog w = .ok (.bool false) w := fun w => by
            rw [run_neq_struct, hSX, eq_sm hok hok 9997 w]
            simp [Result.andThen]
          have k1 := cell_regrown (HX.out.below HW.out).c2
          have k2 := cell_regrown (HY.out.below HW.out).c2
          have HXF := Lib.hid hx
          have HYF := Lib.hid hy
          clear hf hSX hok hx hy hx0 hy0
          go_upto_region 12 with fail
          refine wp_region_quiet_below mixed (by kernel_rfl) ?_
          repeat (first
            | (refine wpQuiet_load_v (by rfl) 52 _ rfl b1 (o1 + k * 34) 34 _ SX VX.out rfl _ (fun w hw j hj => by obtain ⟨⟨d, os⟩, rfl⟩ := hw; exact ((below_regrown wr d os).cell (p := ⟨b1, o1 + k * 34 + j, none⟩) hb1).trans (HXF.out j hj)) und_sm rfl (by kernel_rfl) ?_)
            | (refine wpQuiet_load_v (by rfl) 52 _ rfl b2 (o2 + k * 34) 34 _ SX VX.out rfl _ (fun w hw j hj => by obtain ⟨⟨d, os⟩, rfl⟩ := hw; exact ((below_regrown wr d os).cell (p := ⟨b2, o2 + k * 34 + j, none⟩) hb2).trans (HYF.out j hj)) und_sm rfl (by kernel_rfl) ?_)
            | go_big_quiet_step (fail) | quiet_step (fail))
          refine wpQuiet_nil ?_
          intro _ hw'
          obtain ⟨⟨dq, osq⟩, hw''⟩ := hw'
          subst hw''
          have HW2 : Hid (Below w1.heap.size w1 (Go.Sort.grow (redrawn wr dq) osq)) := HW.out.trans ((below_regrown wr dq osq).mono HW.out.size)
          clear k1 k2 nX
          generalize Go.Sort.grow (redrawn wr dq) osq = w3 at *
          go_wp2_with fail
          go_roundw
          case rel => exact ⟨k + 1, by omega, by go_num, HW2⟩
          case measure => simp [intOf]; omega
        · obtain rfl : k = S.slices.length := by omega
          go_wp2_with fail
          exact HR.out _ (HB.out.trans (HW.out.mono HB.out.size))
section
variable {H : Type} {enc : TypeId × Value → H} {w : World} {base : Nat} {spare : Nat → Bool} {held : Bool}
instance fil_some : Inhabited Fil := ⟨zFil⟩
theorem cells_set : Tryz.prog.cellsOf 30 = 3 := by kernel_rfl
set_option maxRecDepth 100000 in
theorem fils_in {fuel : Nat} {c : Value} {x : DataW H × List MemPlace} (h : DataW.trod enc Tryz.prog w base spare held fuel 27 [c] = some x) :
    ∃ a l cap, c = .slice a (l : List Fil).length cap ∧ Fils w a cap l := by
  rcases DataW.trod_slice Tryz.underlying27 h with ⟨hcs, hx⟩ | ⟨a, len, cap, elems, rest, n, _, hcs, hx, hb, hl, hm, hlen, hel, _, _⟩
  · simp only [List.cons.injEq, and_true] at hcs
    exact ⟨none, [], 0, hcs, ⟨fun f hf => (by cases hf), by simp, by unfold maxLen; omega, .inl rfl⟩⟩
  · simp only [List.cons.injEq, and_true] at hcs
    obtain ⟨f, hf⟩ := Go.Deep.choose_lt (α := Fil) (p := fun i v => FilOk v ∧ ∀ j, j < 35 → w.cell? ((a.add (i * 35)).add j) = some (filV v j)) (n := len) fun i hi => by
      have h1 := hel i hi
      rw [cells_fil] at h1
      have hie : i < elems.length := by omega
      rw [List.getElem?_eq_getElem hie] at h1
      obtain ⟨cs, hcs1, hcs2⟩ := Option.bind_eq_some_iff.1 h1
      obtain ⟨f, hfo, rfl⟩ := fil_in hcs2
      obtain ⟨_, _, hc⟩ := World.cells?_some hcs1
      refine ⟨f, hfo, fun j hj => ?_⟩
      rw [hc j (by omega)]
      have := rowArr_get 35 (filV f) j
      rw [if_pos hj] at this
      exact this
    have hll : ((List.range len).map f).length = len := by simp
    refine ⟨some a, (List.range len).map f, cap, by rw [hll]; exact hcs, ⟨fun x hx => ?_, by rw [hll]; exact hl, hm, ?_⟩⟩
    · obtain ⟨i, hi, rfl⟩ := List.mem_map.1 hx
      exact (hf i (List.mem_range.1 hi)).1
    · by_cases h0 : len = 0
      · exact .inl (List.length_eq_zero_iff.1 (by rw [hll]; exact h0))
      · obtain ⟨b, off, spot⟩ := a
        have hc0 := (hf 0 (by omega)).2 0 (by omega)
        have hc0' : w.cell? (⟨b, off, spot⟩ : Addr) = some (filV (f 0) 0) := by simpa [Addr.add] using hc0
        have hspot : spot = none := World.cell?_spot hc0'
        subst hspot
        have hadd : ∀ r j, ((⟨b, off, none⟩ : Addr).add r).add j = ⟨b, off + r + j, none⟩ := fun r j => by rw [addr_add, addr_add]
        refine .inr ⟨b, off, rfl, World.block_lt_of_cell? w _ hc0', fun i hi k hk => ?_⟩
        have hi2 : i < len := by rw [hll] at hi; exact hi
        have hgi : ((List.range len).map f)[i] = f i := by simp
        rw [hgi, ← hadd]
        exact (hf i hi2).2 k hk
theorem sms_none_in {fuel : Nat} {a : Option Addr} {n cap : Nat} {x : DataW H × List MemPlace} (h : DataW.trod enc Tryz.prog w base spare held fuel 28 [.slice a n cap] = some x) : a = none → cap = 0 := by
  rcases DataW.trod_slice Tryz.underlying28 h with ⟨hcs, hx⟩ | ⟨a', len, cap', elems, rest, n', _, hcs, hx, hb, hl, hm, hlen, hel, _, _⟩
  · simp only [List.cons.injEq, and_true] at hcs
    injection hcs with e1 e2 e3
    exact fun _ => e3
  · simp only [List.cons.injEq, and_true] at hcs
    injection hcs with e1 e2 e3
    intro e
    rw [e] at e1
    cases e1
set_option maxRecDepth 100000 in
/-- A set that is handed in. -/
theorem set_arg {r : Reach} {b0 : Nat} {v : Value} {d : DataW H} {q : List MemPlace} (hv : Value.okWide Tryz.prog w r b0 30 v) (h : DataW.Trod enc Tryz.prog w base spare held 30 v d q) :
    ∃ S fa fc sa sc, v = .agg (rowArr 3 (setV S fa fc sa sc)) ∧ SetAt w S fa fc sa sc ∧ (sa = none → sc = 0) := by
  obtain ⟨cs, rfl, hsz⟩ := okWide_struct Tryz.underlying30 hv
  obtain ⟨fuel, hf⟩ := h
  obtain ⟨xs, n, _, hy, hlen, hxl, hf⟩ := DataW.trod_struct Tryz.underlying30 hf
  rw [cells_set] at hsz
  match xs, hxl with
  | [y0, y1, y2], _ =>
    have f0 : DataW.trod enc Tryz.prog w base spare held n 3 ((cs.toList.drop 0).take 1) = some y0 := hf 0 _ rfl
    have f1 : DataW.trod enc Tryz.prog w base spare held n 27 ((cs.toList.drop 1).take 1) = some y1 := hf 1 _ rfl
    have f2 : DataW.trod enc Tryz.prog w base spare held n 28 ((cs.toList.drop 2).take 1) = some y2 := hf 2 _ rfl
    have hl3 : cs.toList.length = 3 := by rw [Array.length_toList]; exact hsz
    have one : ∀ off, off < 3 → ∃ c, (cs.toList.drop off).take 1 = [c] := fun off ho => ⟨cs.toList[off], by
      rw [List.drop_eq_getElem_cons (by omega)]; rfl⟩
    obtain ⟨z1, e1, _, wz1⟩ := DataW.trod_int Tryz.underlying3 f0
    obtain ⟨c1, h1⟩ := one 1 (by omega)
    obtain ⟨c2, h2⟩ := one 2 (by omega)
    rw [h1] at f1
    rw [h2] at f2
    obtain ⟨fa, fl, fc, rfl, hfi⟩ := fils_in f1
    obtain ⟨sa, sc, sl, rfl, hsm⟩ := sms_in f2
    have hn := sms_none_in f2
    refine ⟨⟨z1, fl, sl⟩, fa, fc, sa, sc, ?_, ⟨i64R_of wz1, hfi, hsm⟩, hn⟩
    congr 1
    apply Array.ext'
    apply List.ext_getElem?
    intro i
    rw [rowArr_get]
    by_cases hi : i < 3
    · rw [if_pos hi]
      have hc : i = 0 ∨ i = 1 ∨ i = 2 := by omega
      rcases hc with rfl | rfl | rfl
      · exact part_get (j := 0) e1 (by omega)
      · exact part_get (j := 0) h1 (by omega)
      · exact part_get (j := 0) h2 (by omega)
    · rw [if_neg hi, List.getElem?_eq_none (by omega)]
end
end Go.Proofs.YtfgaohilpbocbaaGreatDoor
end
