/-
  Digests, in the words of the other texts: package sum's and the document's, of any bytes.
  Bytes gathered by append: slices, strings; the document's File and Bytes.
  The document's Bytes: a packet's bytes.
  What is known of slices (api.Slice) in memory; the document's Sums.
-/
import Derived.Test.YtcopjbapglndgaaGreatDoorMr8
import Derived.Lib.AppendStr
import Derived.Lib.SlBytesConst
import Derived.Laws.Tables
import Derived.Laws.Rows
import Derived.Laws.Append
section
namespace Go.Proofs.YtcopjbapglndgaaGreatDoor
open Go.ChangeShapes Go.WideShapes Go.ChangeAt Go.RowKit Go.Joins
set_option linter.unusedVariables false

/-- The digest of bytes. -/
def dgN (l : List Nat) : List Nat := Sha.digestN l
theorem dgN_len (l : List Nat) : (dgN l).length = 32 := by simp [dgN, Sha.digestN, Sha.spellN]
theorem dgN_byte (l : List Nat) : IsByte (dgN l) := by
  intro n hn
  unfold dgN Sha.digestN Sha.spellN at hn
  obtain ⟨i, _, rfl⟩ := List.mem_map.1 hn
  exact Nat.mod_lt _ (by omega)
theorem dg_row (l : List Nat) : Sha.rowArr 32 (Sha.spV (Sha.comp (Sha.padN l) ((Sha.padN l).length / 64))) = rowArr 32 (vOf (dgN l)) := by
  unfold Sha.rowArr rowArr dgN Sha.digestN
  congr 1
/-- The tables of package sum, as they are laid. -/
def Tabs (w : World) : Prop := Sha.Ks w ∧ Sha.Starts w
theorem Tabs.below {w w' : World} (h : Tabs w) (k : Below w.heap.size w w') : Tabs w' := by
  refine ⟨h.1.below h.1.lt k, ?_⟩
  obtain ⟨t, fr, e⟩ := h.2
  exact ⟨t, fr, (k.block _ (Array.getElem?_eq_some_iff.1 e).1).trans e⟩
theorem sl_sha {w : World} {a : Option Addr} {c : Nat} {l : List Nat} (h : Sl w a c l) : Sha.BytesAt w a l := h.here
theorem digest_sl (a : Option Addr) (c : Nat) (l : List Nat) (w : World) (hs : Sl w a c l) (hl : l.length ≤ 1000000) (ht : Tabs w) :
    Calls Tryz.prog 20 #[.slice a l.length c] w fun e w' => e = .returned (.agg (rowArr 32 (vOf (dgN l)))) ∧ Below w.heap.size w w' := by
  rw [← dg_row]
  exact Sha.digest_any a c l w hl hs.len hs.most hs.byte (sl_sha hs) ht.1 ht.2
theorem refDigest_sl (a : Option Addr) (c : Nat) (l : List Nat) (w : World) (hs : Sl w a c l) (hl : l.length ≤ 1000000) :
    Calls Tryz.prog 31 #[.slice a l.length c] w fun e w' => e = .returned (.agg (rowArr 32 (vOf (dgN l)))) ∧ Below w.heap.size w w' := by
  rw [← dg_row]
  exact Sha.ref_core a c l _ rfl w hl (fun e => ⟨by rw [(hs.none e).1]; rfl, (hs.none e).2⟩) hs.byte (sl_sha hs)
end Go.Proofs.YtcopjbapglndgaaGreatDoor
end

section
namespace Go.Proofs.YtcopjbapglndgaaGreatDoor
open Go.ChangeShapes Go.WideShapes Go.ChangeAt Go.RowKit Go.Joins
set_option linter.unusedVariables false

theorem wpList_acc {ops : Array Oper} {rest : List Oper} {o : Oper} {a : Act} {Q : Exit → Act → World → Prop} {w0 : World} (w : World) (hgd : o.guard = none) (s x : Operand)
    (ho : o.op = .call { callee := .builtin .append, args := #[s, x], argTypes := #[35, 35] })
    (v : Value) (l : List Nat) (hsv : a.eval s = v) (hA : Acc w0 w v l) (ga : Option Addr) (gc q : Nat) (m : List Nat) (hxv : a.eval x = .slice ga q gc) (hq : m.length = q) (hs : Sl w ga gc m) (hn : l.length + m.length ≤ 1000000)
    (h : ∀ v' w', Hid (Acc w0 w' v' (l ++ m)) → wpList Tryz.prog ops Q rest (a.put o.dst v') w') : wpList Tryz.prog ops Q (o :: rest) a w :=
  wpList_addB w hgd s x ho v l hsv hA.own ga gc q m hxv hq hs hn fun v' w' o g e => h v' w' (hA.add o.out g.out e.out)
theorem strCells_eq (l : List Nat) (hb : IsByte l) : Lib.strCells (strOf l) = l.map byteV := by
  unfold Lib.strCells strOf
  rw [strOfNums_data, List.map_map, List.map_map]
  apply List.map_congr_left
  intro n hn
  have := hb n hn
  simp [byteV]
  omega
theorem wpList_accS {ops : Array Oper} {rest : List Oper} {o : Oper} {a : Act} {Q : Exit → Act → World → Prop} {w0 : World} (w : World) (hgd : o.guard = none) (s x : Operand)
    (ho : o.op = .call { callee := .builtin .append, args := #[s, x], argTypes := #[35, 9] })
    (v : Value) (l : List Nat) (hsv : a.eval s = v) (hA : Acc w0 w v l) (m : List Nat) (hb : IsByte m) (hxv : a.eval x = .string (strOf m)) (hn : l.length + m.length ≤ 1000000)
    (h : ∀ v' w', Hid (Acc w0 w' v' (l ++ m)) → wpList Tryz.prog ops Q rest (a.put o.dst v') w') : wpList Tryz.prog ops Q (o :: rest) a w := by
  obtain ⟨i0, hi, hz0, hz1, hz2⟩ := info_parts info8C
  have hown : w.ownsRow w0.heap.size 5 1 v l.length (l.map byteV) := by
    refine ⟨hA.own.1, ?_⟩
    rcases hA.own.2 with h | ⟨g, cap, cur, e, _, r⟩
    · exact .inl h
    · exact .inr ⟨g, cap, cur, e, hA.low g (by rw [e]; rfl), r⟩
  refine Lib.wpList_append_own_string w hgd s x 35 9 ho w0.heap.size 5 i0 Tryz.underlying35 Tryz.underlying9 hi hz0 hz1 hz2 v l.length (l.map byteV) hsv hown (strOf m) hxv (by rw [strOf_size]; unfold maxLen; omega) (by rw [strOf_size]; omega) hA.below.size ?_
  intro v' w' h1 h2 _
  rw [strCells_eq m hb, strOf_size] at h1
  refine h v' w' ⟨⟨by simp, ?_⟩, fun j hj => (World.ownsRow.lt h1 j hj).1, hA.below.grown h2 hA.below.size fun k hk => hA.low k hk⟩
  rcases h1.2 with ⟨e, e2⟩ | ⟨g, cap, cur, e, hg, r⟩
  · exact .inl ⟨e, by rw [List.length_append]; exact e2⟩
  · refine .inr ⟨g, cap, cur, by rw [List.length_append]; exact e, Nat.zero_le _, ?_⟩
    rw [List.length_append, List.map_append]
    exact r

/-- A file's entry: its name, length, digest, where its slices begin. -/
structure Fil where
  name : List Nat
  size : Int
  dg : List Nat
  first : Int
structure FilOk (f : Fil) : Prop where
  byte : IsByte f.name
  size : i64R f.size
  first : i64R f.first
  dgl : f.dg.length = 32
  dgb : IsByte f.dg
  short : f.name.length ≤ 9223372036854775807
/-- Its 35 cells. -/
def filV (f : Fil) (j : Nat) : Value := if j = 0 then .string (strOf f.name) else if j = 1 then .int .i64 f.size else if j < 34 then vOf f.dg (j - 2) else .int .i64 f.first
theorem filV_at (f : Fil) (w : World) (b : Nat) (t : TypeId) (h : w.heap[b]? = some (.cells (rowArr 35 (filV f)) t (0, 0))) : w.cell? ⟨b, 0, none⟩ = some (.string (strOf f.name)) ∧ w.cell? ⟨b, 1, none⟩ = some (.int .i64 f.size) ∧ w.cell? ⟨b, 34, none⟩ = some (.int .i64 f.first) := by
  have k : ∀ j, j < 35 → w.cell? ⟨b, j, none⟩ = some (filV f j) := fun j hj => by rw [cell_of_block h]; simp [rowArr, hj]
  exact ⟨k 0 (by omega), k 1 (by omega), k 34 (by omega)⟩
theorem filV_dg (f : Fil) (hf : FilOk f) (w : World) (b : Nat) (t : TypeId) (h : w.heap[b]? = some (.cells (rowArr 35 (filV f)) t (0, 0))) : Sl w (some ⟨b, 2, none⟩) 32 f.dg := by
  refine ⟨hf.dgb, by rw [hf.dgl]; exact Nat.le_refl _, by unfold maxLen; omega, fun e => (by cases e), .inr ⟨b, 2, rfl, fun i hi => ?_⟩⟩
  have hi2 := hi
  rw [hf.dgl] at hi2
  have e : filV f (2 + i) = vOf f.dg i := by
    unfold filV
    rw [if_neg (by omega), if_neg (by omega), if_pos (by omega), show 2 + i - 2 = i by omega]
  rw [cell_of_block h, ← vOf_eq f.dg i hi, ← e]
  simp [rowArr, show 2 + i < 35 by omega]
/-- The body of a file's packet. -/
def fileN (i : Int) (f : Fil) : List Nat := [u8N i, u8N f.name.length] ++ f.name ++ wideN (u64N f.size) 4 ++ f.dg ++ wideN (u64N f.first) 2

theorem two_row (w : World) (a b : Nat) : Row (w.alloc (.cells #[.int .u8 (a : Int), .int .u8 (b : Int)] 5)) w.heap.size 5 2 2 (vOf [a, b]) := row_of_cells w [a, b] _ rfl
set_option maxRecDepth 100000 in
set_option maxHeartbeats 2000000 in
theorem refFile_any (i : Int) (f : Fil) (w : World) (hi : i64R i) (hf : FilOk f) (hl : f.name.length ≤ 100000) :
    Calls Tryz.prog 54 #[.int .i64 i, .agg (rowArr 35 (filV f))] w fun e w' => ∃ v, e = .returned v ∧ Acc w w' v (fileN i f) := by
  have mixed : Tryz.prog.follows .mixedOrders = true := by kernel_rfl
  have HF := Lib.hid hf
  have HBX : Hid ((w.alloc (.cells (rowArr 35 (filV f)) 58)).heap[w.heap.size]? = some (.cells (rowArr 35 (filV f)) 58 (0, 0))) := heap_alloc_last w _
  have HB0 : Hid (Below w.heap.size w (w.alloc (.cells (rowArr 35 (filV f)) 58))) := (Below.refl _ _).alloc (Nat.le_refl _) _
  obtain ⟨arr, harr⟩ : ∃ arr, arr = rowArr 35 (filV f) := ⟨_, rfl⟩
  rw [← harr] at HBX HB0 ⊢
  have HAR := Lib.hid harr
  have HIR := Lib.hid hi
  clear harr hf
  have e1 := u8_wrap i
  have e2 := u8_wrap (f.name.length : Int)
  have h1 := u8N_lt i
  have h2 := u8N_lt (f.name.length : Int)
  have e3 := u64_wrap f.size
  have e4 := u64_wrap f.first
  obtain ⟨I, hI⟩ : ∃ I, I = u8N i := ⟨_, rfl⟩
  obtain ⟨J, hJ⟩ : ∃ J, J = u8N (f.name.length : Int) := ⟨_, rfl⟩
  obtain ⟨S, hS⟩ : ∃ S, S = u64N f.size := ⟨_, rfl⟩
  obtain ⟨F, hF⟩ : ∃ F, F = u64N f.first := ⟨_, rfl⟩
  have hS2 : S < 18446744073709551616 := by rw [hS]; exact u64N_lt _
  have hF2 : F < 18446744073709551616 := by rw [hF]; exact u64N_lt _
  have HRES : Hid (fileN i f = [I, J] ++ f.name ++ wideN S 4 ++ f.dg ++ wideN F 2) := by unfold fileN; rw [hI, hJ, hS, hF]; rfl
  rw [← hI] at e1 h1
  rw [← hJ] at e2 h2
  rw [← hS] at e3
  rw [← hF] at e4
  clear hI hJ hS hF hi
  go_enter Tryz.func54, Tryz.ntmps54
  go_upto_region 1 with fail
  obtain ⟨w1, hw1⟩ : ∃ w1, w1 = w.alloc (.cells arr 58) := ⟨_, rfl⟩
  obtain ⟨B, hB⟩ : ∃ B, B = w.heap.size := ⟨_, rfl⟩
  rw [← hw1, ← hB] at HBX
  rw [← hw1] at HB0
  rw [← hw1, ← hB]
  have hwB : w.heap.size ≤ B := by omega
  clear hw1 hB
  rw [HAR.out] at HBX
  obtain ⟨c0, c1, c34⟩ := filV_at f w1 B _ HBX.out
  have HD1 := Lib.hid (filV_dg f HF.out w1 B _ HBX.out)
  have hBlt : B < w1.heap.size := World.block_lt_of_cell? w1 ⟨B, 0, none⟩ c0
  have hsz := strOf_size f.name
  have HA1 : Hid (Acc w1 (w1.alloc (.cells #[.int .u8 (I : Int), .int .u8 (J : Int)] 5)) (.slice (some ⟨w1.heap.size, 0, none⟩) 2 2) [I, J]) := ⟨OwnB.of_row (two_row w1 I J) rfl (by unfold maxLen; simp), fun j hj => by
    have : w1.heap.size = j := by simpa [Value.ownBlock] using hj
    omega, (Below.refl _ _).alloc (Nat.le_refl _) _⟩
  go_wp2_with (at_builtin; refine wpList_accS _ rfl _ _ rfl (.slice (some ⟨w1.heap.size, 0, none⟩) 2 2) [I, J] rfl HA1.out f.name HF.out.byte rfl (by simp; omega) ?_; intro v2 w2 HA2)
  obtain ⟨wd, hwd⟩ : ∃ wd, wd = w2.drew := ⟨_, rfl⟩
  have HAd : Hid (Acc w1 wd v2 ([I, J] ++ f.name)) := by rw [hwd]; exact HA2.out.later (Below.refl _ _).drew
  have hBd : B < wd.heap.size := Nat.lt_of_lt_of_le hBlt HAd.out.below.size
  have hBo : ¬ v2.ownBlock = some B := fun e => by have := HAd.out.low B e; omega
  have k1 : ∀ u : KeepW wd (fun j => v2.ownBlock = some j), u.v.cell? ⟨B, 1, none⟩ = some (.int .i64 f.size) := fun u => (u.cell hBd hBo).trans ((HAd.out.below.cell (p := ⟨B, 1, none⟩) hBlt).trans c1)
  have HW4 : Hid (Calls Tryz.prog 36 #[.int .u64 (S : Int), .int .i64 4] wd fun e w' => e = .returned (.slice (some ⟨wd.heap.size, 0, none⟩) 4 4) ∧ NewTo wd w' (wideN S 4) 4) := wide_any S 4 wd hS2 (by omega)
  clear HA1 HA2 c0 c1 e1 e2 h1 h2
  refine growK_begin 9 (fun w' => ∃ u : KeepW wd (fun j => v2.ownBlock = some j), w' = u.v) (by kernel_rfl) ?_
  rw [← hwd]
  clear hwd
  refine growK_take (by kernel_rfl) [0, 1, 2, 3, 6, 7] 4 _ _ (by kernel_rfl) _ (keep_class (Fr.refl _ _)) ?_
  simp only [opsAt, List.getElem?_toArray, List.getElem?_cons_succ, List.getElem?_cons_zero]
  repeat (first | go_big_quiet_step (fail) | quiet_step (fail))
  refine wpQuiet_nil ?_
  clear k1
  refine growK_one 4 (by kernel_rfl) (fun K hK => ?_)
  simp only [stepOf, List.getElem?_toArray, List.getElem?_cons_succ, List.getElem?_cons_zero]
  go_simp
  go_at_call 36
  (with_reducible refine HW4.out.mono ?_)
  rintro e w3 ⟨rfl, hn3⟩
  have HA3 := Lib.hid (HAd.out.later hn3.below)
  have HY3 := Lib.hid (hn3.one (wideN_len _ _) (wideN_byte _ _) (by omega))
  have fr3 : Hid (Fr (fun j => v2.ownBlock = some j) wd w3) := Fr.of_below hn3.below
  refine hK.out _ _ (keep_class fr3.out) ?_
  clear hK K hn3 HW4
  refine growK_one 5 (by kernel_rfl) (fun K hK => ?_)
  simp only [stepOf, List.getElem?_toArray, List.getElem?_cons_succ, List.getElem?_cons_zero]
  rw [if_pos (by rfl)]
  refine wp_addB _ (.tmp 16) (.tmp 20) rfl v2 ([I, J] ++ f.name) rfl HA3.out.own (some ⟨wd.heap.size, 0, none⟩) 4 4 (wideN S 4) rfl (wideN_len _ _) HY3.out (by rw [wideN_len]; simp; omega) ?_
  intro v4 w4 o4 g4 e4
  have HA4 := Lib.hid (HA3.out.add o4.out g4.out e4.out)
  have fr4 : Hid (Fr (fun j => v2.ownBlock = some j) wd w4) := fr3.out.trans (Fr.of_grown g4.out fun b e => e)
  have HOW : Hid (∀ j, v4.ownBlock = some j → v2.ownBlock = some j ∨ wd.heap.size ≤ j) := fun j hj => by
    rcases e4.out with h | h
    · exact .inl (by rw [← h]; exact hj)
    · rw [h] at hj
      have := Option.some.inj hj
      have := fr3.out.size
      exact .inr (by omega)
  have HD4 := Lib.hid (HD1.out.below HA4.out.below)
  refine hK.out _ _ (keep_class fr4.out) ?_
  clear hK K o4 g4 e4 HA3 HY3
  refine growK_one 8 (by kernel_rfl) (fun K hK => ?_)
  simp only [stepOf, List.getElem?_toArray, List.getElem?_cons_succ, List.getElem?_cons_zero]
  rw [if_pos (by rfl)]
  refine wp_addB _ (.tmp 21) (.tmp 23) rfl v4 ([I, J] ++ f.name ++ wideN S 4) rfl HA4.out.own (some ⟨B, 2, none⟩) 32 32 f.dg rfl HF.out.dgl HD4.out (by rw [List.length_append, wideN_len, HF.out.dgl]; simp; omega) ?_
  intro v5 w5 o5 g5 e5
  have HA5 := Lib.hid (HA4.out.add o5.out g5.out e5.out)
  have fr5 : Hid (Fr (fun j => v2.ownBlock = some j) wd w5) := fr4.out.over (Fr.of_grown (X := fun j => v4.ownBlock = some j) g5.out fun b e => e) HOW.out
  refine hK.out _ _ (keep_class fr5.out) ?_
  clear hK K o5 g5 e5 HA4 HD4
  refine growK_last (by kernel_rfl) (by kernel_rfl) (fun K hK => ?_)
  simp only [stepOf, List.getElem?_toArray, List.getElem?_cons_succ, List.getElem?_cons_zero]
  go_simp
  refine hK.out _ _ ?_
  have c5 : w5.cell? ⟨B, 34, none⟩ = some (.int .i64 f.first) := (HA5.out.below.cell (p := ⟨B, 34, none⟩) hBlt).trans c34
  have HW5 : Hid (Calls Tryz.prog 36 #[.int .u64 (F : Int), .int .i64 2] w5 fun e w' => e = .returned (.slice (some ⟨w5.heap.size, 0, none⟩) 2 2) ∧ NewTo w5 w' (wideN F 2) 2) := wide_any F 2 w5 hF2 (by omega)
  clear hK K fr5 fr4 fr3 HOW c34
  go_wp2_with fail
  (with_reducible refine HW5.out.mono ?_)
  rintro e w6 ⟨rfl, hn6⟩
  have HA6 := Lib.hid (HA5.out.later hn6.below)
  have HY6 := Lib.hid (hn6.one (wideN_len _ _) (wideN_byte _ _) (by omega))
  clear hn6 HW5 HA5
  go_wp2_with (at_builtin; refine wpList_acc _ rfl _ _ rfl v5 ([I, J] ++ f.name ++ wideN S 4 ++ f.dg) rfl HA6.out (some ⟨w5.heap.size, 0, none⟩) 2 2 (wideN F 2) rfl (wideN_len _ _) HY6.out (by rw [List.length_append, List.length_append, wideN_len, HF.out.dgl, wideN_len]; simp; omega) ?_; intro v7 w7 HA7)
  go_ret
  exact ⟨v7, rfl, by rw [HRES.out]; exact HA7.out.base HB0.out⟩
end Go.Proofs.YtcopjbapglndgaaGreatDoor
end

section
namespace Go.Proofs.YtcopjbapglndgaaGreatDoor
open Go.ChangeShapes Go.WideShapes Go.ChangeAt Go.RowKit Go.Joins
set_option linter.unusedVariables false

theorem nat_take {n : Nat} {a b c : List Value} (ha : a.length = n) : ((a.toArray ++ b.toArray ++ c.toArray).toList.take (n + b.length)) = a ++ b := by
  have e : (a.toArray ++ b.toArray ++ c.toArray).toList = (a ++ b) ++ c := by simp
  rw [e, List.take_left' (by rw [List.length_append, ha])]
/-- Bytes appended to a full row, whatever mark it has: a row of one's own. -/
theorem run_appO (w : World) (ty : TypeId) (g n : Nat) (l : List Nat) (ga : Option Addr) (gc : Nat) (m : List Nat) (hg : BytesIn w g 0 l) (hl : l.length = n) (hs : Sl w ga gc m) (h0 : m ≠ []) (hn : n ≤ 100000) (hm : m.length ≤ 100000) :
    ∃ v' w', (Builtin.append_ #[35, 35] ty #[.slice (some ⟨g, 0, none⟩) n n, .slice ga m.length gc]).run Tryz.prog w = .ok v' w' ∧ OwnB w' v' (l ++ m) ∧ v'.ownBlock = some w.heap.size ∧ Below w.heap.size w w' := by
  obtain ⟨i0, hi, hz0, hz1, hz2⟩ := info_parts info8C
  have hrd : ∀ (k : List Nat) (b off : Nat), BytesIn w b off k → ∀ j v, (k.map byteV)[j]? = some v → w.cell? ((⟨b, off, none⟩ : Addr).add j) = some v := fun k b off hb j v hv => by
    rw [List.getElem?_map] at hv
    obtain ⟨x, hx, rfl⟩ := Option.map_eq_some_iff.1 hv
    obtain ⟨hj, rfl⟩ := List.getElem?_eq_some_iff.1 hx
    have := hb j hj
    by_cases j0 : j = 0
    · subst j0; simpa [Addr.add, byteV] using this
    · simpa [Addr.add, j0, byteV] using this
  have hpos : 0 < m.length := List.length_pos_iff.2 h0
  obtain ⟨b, off, rfl, hb⟩ := hs.some hpos
  have hr := run_append_grow (P := Tryz.prog) w 35 ty 5 i0 (.int .u8 0) Tryz.underlying35 hi hz0 ⟨g, 0, none⟩ n n (l.map byteV) (by rw [List.length_map, hl, hz1]; simp) (hrd l g 0 hg) ⟨b, off, none⟩ m.length gc (m.map byteV) (by rw [List.length_map, hz1]; simp) (hrd m b off hb) (by omega) (by omega) (growslice_fits (by omega) (by rw [hz2]; omega))
  have hge := grownCap_ge w (n + m.length) n 5
  have hcm : grownCap w (n + m.length) n 5 ≤ maxLen := grownCap_le_maxLen _ _ _ _ (by unfold maxLen; omega)
  generalize grownCap w (n + m.length) n 5 = cap at hr hge hcm
  refine ⟨_, _, hr, ⟨by simp, .inr ⟨w.heap.size, cap, _, by rw [List.length_append, hl], Nat.zero_le _, heap_alloc_new w.drew _, by rw [List.length_append, hl]; exact hge, hcm, ?_, ?_⟩⟩, rfl, ((Below.refl w.heap.size w).drew).alloc (Nat.le_refl _) _⟩
  · simp [Builtin.zeroCells, Value.cells, hl]
    omega
  · have := nat_take (n := n) (a := l.map byteV) (b := m.map byteV) (c := (Builtin.zeroCells (Value.int .u8 0).cells (cap - (n + m.length))).toList) (by rw [List.length_map, hl])
    rw [List.length_map] at this
    rw [List.length_append, hl, List.map_append, Nat.mul_one]
    simpa using this
theorem wpList_appO {ops : Array Oper} {rest : List Oper} {o : Oper} {a : Act} {Q : Exit → Act → World → Prop} (w : World) (hgd : o.guard = none) (s x : Operand)
    (ho : o.op = .call { callee := .builtin .append, args := #[s, x], argTypes := #[35, 35] })
    (g n : Nat) (l : List Nat) (hsv : a.eval s = .slice (some ⟨g, 0, none⟩) n n) (hg : BytesIn w g 0 l) (hl : l.length = n) (ga : Option Addr) (gc q : Nat) (m : List Nat) (hxv : a.eval x = .slice ga q gc) (hq : m.length = q) (hs : Sl w ga gc m) (h0 : m ≠ []) (hn : n ≤ 100000) (hm : m.length ≤ 100000)
    (h : ∀ v' w', Hid (Acc w w' v' (l ++ m)) → wpList Tryz.prog ops Q rest (a.put o.dst v') w') : wpList Tryz.prog ops Q (o :: rest) a w := by
  subst hq
  refine wpList_plain hgd fun K hK => ?_
  obtain ⟨v', w', hr, h2, h3, h4⟩ := run_appO w o.type g n l ga gc m hg hl hs h0 hn hm
  unfold Oper.wp execOp
  simp only [ho, resolve, invoke, builtin, Sem.run_bind, Sem.run_pure, Result.andThen_ok, List.map_toArray, List.map_cons, List.map_nil, hsv, hxv, hr]
  exact hK _ _ (h v' w' ⟨h2, fun j hj => by rw [h3] at hj; exact Nat.le_of_eq (Option.some.inj hj), h4⟩)

/-- An array stored whole into a block: the world behind it by what is known of it. -/
theorem wpList_store_arr {ops : Array Oper} {rest : List Oper} {o : Oper} {a : Act} {w : World} {Q : Exit → Act → World → Prop} (hgd : o.guard = none) (ty : TypeId) (x y : Operand) (ho : o.op = .store ty x y)
    (g : Nat) (cells : Array Value) (hx : a.eval x = .pointer (some ⟨g, 0, none⟩)) (hy : a.eval y = .agg cells)
    (t : TypeId) (old : Array Value) (hg : w.heap[g]? = some (.cells old t (0, 0))) (hi : (Tryz.prog.info? ty).map (·.size) = some cells.size) (hold : old.size = cells.size) (h1 : cells.all (·.oneCell') = true)
    (h : ∀ w', Hid (w'.heap[g]? = some (.cells cells t (0, 0))) → Hid (Fr (fun k => k = g) w w') → wpList Tryz.prog ops Q rest (a.put o.dst undef) w') : wpList Tryz.prog ops Q (o :: rest) a w :=
  wpList_store_row hgd ty x y ho g cells hx hy t old hg hi hold h1 (h _ (setRow_heap _ _ _ _ _ _ hg) (Fr.setRow (X := fun k => k = g) (Fr.refl _ w) (fun _ => rfl) cells))

/-- A packet's bytes. -/
def kbN (k : Int) (b : List Nat) : List Nat := [u8N k] ++ b
def bytesN (set : List Nat) (k : Int) (b : List Nat) : List Nat := [71, 89, 83, 49] ++ wideN (48 + (kbN k b).length) 4 ++ set ++ dgN (set ++ kbN k b) ++ kbN k b
theorem oneCell_v (l : List Nat) (n : Nat) : (rowArr n (vOf l)).all (·.oneCell') = true := by simp [rowArr, vOf, byteV, Value.oneCell']

set_option maxRecDepth 100000 in
set_option maxHeartbeats 2000000 in
theorem refBytes_any (set : List Nat) (k : Int) (a : Option Addr) (c : Nat) (b : List Nat) (w : World) (h8 : set.length = 8) (hsb : IsByte set) (hk : i64R k) (hs : Sl w a c b) (hl : b.length ≤ 20000) :
    Calls Tryz.prog 16 #[.agg (rowArr 8 (vOf set)), .int .i64 k, .slice a b.length c] w fun e w' => ∃ v, e = .returned v ∧ Acc w w' v (bytesN set k b) := by
  have mixed : Tryz.prog.follows .mixedOrders = true := by kernel_rfl
  have HS := Lib.hid hs
  have hlm := hs.lt
  have hcm : c ≤ 9223372036854775807 := by have := hs.most; unfold maxLen at this; omega
  have HBX : Hid ((w.alloc (.cells (rowArr 8 (vOf set)) 40)).heap[w.heap.size]? = some (.cells (rowArr 8 (vOf set)) 40 (0, 0))) := heap_alloc_last w _
  have HB0 : Hid (Below w.heap.size w (w.alloc (.cells (rowArr 8 (vOf set)) 40))) := (Below.refl _ _).alloc (Nat.le_refl _) _
  obtain ⟨arr, harr⟩ : ∃ arr, arr = rowArr 8 (vOf set) := ⟨_, rfl⟩
  rw [← harr] at HBX HB0 ⊢
  have HAR := Lib.hid harr
  have HSB := Lib.hid hsb
  have H8 := Lib.hid h8
  have e1 := u8_wrap k
  have h1 := u8N_lt k
  obtain ⟨I, hI⟩ : ∃ I, I = u8N k := ⟨_, rfl⟩
  have HKB : Hid (kbN k b = [I] ++ b) := by unfold kbN; rw [hI]; rfl
  rw [← hI] at e1 h1
  clear hI hs harr hsb h8
  go_enter Tryz.func16, Tryz.ntmps16
  go_upto_region 1 with fail
  obtain ⟨w1, hw1⟩ : ∃ w1, w1 = w.alloc (.cells arr 40) := ⟨_, rfl⟩
  obtain ⟨B, hB⟩ : ∃ B, B = w.heap.size := ⟨_, rfl⟩
  rw [← hw1, ← hB] at HBX
  rw [← hw1] at HB0
  rw [← hw1, ← hB]
  have hwB : w.heap.size ≤ B := by omega
  clear hw1 hB
  rw [HAR.out] at HBX
  have HSET : Hid (Sl w1 (some ⟨B, 0, none⟩) 8 set) := by
    refine ⟨HSB.out, by rw [H8.out]; exact Nat.le_refl _, by unfold maxLen; omega, fun e => (by cases e), .inr ⟨B, 0, rfl, fun i hi => ?_⟩⟩
    have hi8 : i < 8 := by rw [H8.out] at hi; exact hi
    rw [cell_of_block HBX.out, ← vOf_eq set i hi, Nat.zero_add]
    simp [rowArr, hi8]
  have hBlt : B < w1.heap.size := (Array.getElem?_eq_some_iff.1 HBX.out).1
  have HS1 := Lib.hid (HS.out.below HB0.out)
  -- kind and body
  have HA1 : Hid (Acc w1 (w1.alloc (.cells #[.int .u8 (I : Int)] 5)) (.slice (some ⟨w1.heap.size, 0, none⟩) 1 1) [I]) := ⟨OwnB.of_row (row_of_cells w1 [I] _ rfl) rfl (by unfold maxLen; simp), fun j hj => by
    have : w1.heap.size = j := by simpa [Value.ownBlock] using hj
    omega, (Below.refl _ _).alloc (Nat.le_refl _) _⟩
  go_upto_region 2 with (at_builtin; refine wpList_acc _ rfl _ _ rfl (.slice (some ⟨w1.heap.size, 0, none⟩) 1 1) [I] rfl HA1.out a c b.length b rfl rfl (HS1.out.below HA1.out.below) (by simp; omega) ?_; intro v2 w2 HA2)
  obtain ⟨R, hR⟩ : ∃ R, R = [I] ++ b := ⟨_, rfl⟩
  have HRE : Hid (kbN k b = R) := by rw [HKB.out, hR]; rfl
  rw [← hR] at HA2
  have hRb : IsByte R := by
    rw [hR]
    intro x hx
    rcases List.mem_append.1 hx with h | h
    · simp at h; omega
    · exact HS.out.byte x h
  have hRl : R.length ≤ 20001 := by rw [hR, List.length_append]; simp only [List.length_singleton]; omega
  clear hR HA1 HKB
  obtain ⟨ar, cr, rfl, hsr, _⟩ := HA2.out.own.sl hRb
  have HR2 := Lib.hid hsr
  have HB2 := Lib.hid HA2.out.below
  have hlr := hsr.lt
  clear hsr HA2
  -- what is summed
  have HA3 : Hid (Acc w2 (w2.alloc (.cells #[] 5)) (.slice (some ⟨w2.heap.size, 0, none⟩) 0 0) []) := ⟨World.ownsRow_made w2 #[] 0 (Nat.zero_le _) (by simp) (by simp), fun j hj => by
    have : w2.heap.size = j := by simpa [Value.ownBlock] using hj
    omega, (Below.refl _ _).alloc (Nat.le_refl _) _⟩
  have HSET2 := Lib.hid (HSET.out.below HB2.out)
  go_wp2_with (at_builtin; first | (refine wpList_acc _ rfl _ _ rfl (.slice (some ⟨w2.heap.size, 0, none⟩) 0 0) [] rfl HA3.out (some ⟨B, 0, none⟩) 8 8 set rfl H8.out (HSET2.out.below HA3.out.below) (by rw [H8.out]; simp) ?_; intro v4 w4 HA4; clear HA3; rw [List.nil_append] at HA4) | (refine wpList_acc _ rfl _ _ rfl v4 set rfl HA4.out ar cr R.length R rfl rfl (HR2.out.below HA4.out.below) (by rw [H8.out]; omega) ?_; intro v5 w5 HA5; clear HA4))
  obtain ⟨T, hT⟩ : ∃ T, T = set ++ R := ⟨_, rfl⟩
  rw [← hT] at HA5
  have hTb : IsByte T := by
    rw [hT]
    intro x hx
    rcases List.mem_append.1 hx with h | h
    · exact HSB.out x h
    · exact HR2.out.byte x h
  have hTl : T.length ≤ 20009 := by rw [hT, List.length_append, H8.out]; omega
  have HTE := Lib.hid hT
  clear hT hTb HSET HSET2
  obtain ⟨a5, c5, hv5, hs5, _⟩ := HA5.out.own.sl (by rw [HTE.out]; intro x hx; rcases List.mem_append.1 hx with h | h; exact HSB.out x h; exact HR2.out.byte x h)
  subst hv5
  have HDG := Lib.hid (refDigest_sl a5 c5 T w5 hs5 (by omega))
  have HB5 := Lib.hid (HB2.out.trans (HA5.out.below.mono HB2.out.size))
  have HR5 := Lib.hid (HR2.out.below HA5.out.below)
  obtain ⟨D, hD⟩ : ∃ D, D = dgN T := ⟨_, rfl⟩
  have HDE : Hid (dgN (set ++ R) = D) := by rw [hD, HTE.out]; rfl
  have HDL : Hid (D.length = 32) := by rw [hD]; exact dgN_len T
  have HDB : Hid (IsByte D) := by rw [hD]; exact dgN_byte T
  rw [← hD] at HDG
  clear hD hs5 HA5 HTE
  (with_reducible refine HDG.out.mono ?_)
  rintro e w6 ⟨rfl, b6⟩
  have HB6 := Lib.hid (HB5.out.trans (b6.mono HB5.out.size))
  have HR6 := Lib.hid (HR5.out.below b6)
  clear b6 HDG HB5 HR5 HR2 HB2
  have HALL : Hid (∀ c : Array Value, (w6.alloc (.cells c 55)).heap[w6.heap.size]? = some (.cells c 55 (0, 0))) := fun c => heap_alloc_last w6 _
  have HALB : Hid (∀ c : Array Value, Below w6.heap.size w6 (w6.alloc (.cells c 55))) := fun c => (Below.refl _ _).alloc (Nat.le_refl _) _
  have HALS : Hid (∀ c : Array Value, w6.heap.size < (w6.alloc (.cells c 55)).heap.size) := fun c => (Array.getElem?_eq_some_iff.1 (heap_alloc_last w6 (.cells c 55))).1
  go_upto_region 3 with (refine wpList_store_arr rfl 55 _ _ rfl w6.heap.size (rowArr 32 (vOf D)) rfl rfl 55 _ (HALL.out _) (by rw [rowArr_size]; kernel_rfl) (by rw [rowArr_size]; rfl) (oneCell_v D 32) ?_; intro w7 HC7 hf7; have HB67 : Hid (Below w6.heap.size w6 w7) := (HALB.out _).trans (hf7.out.below (HALB.out _).size (fun k hk e => by omega)); clear hf7 HALL HALB HALS)
  obtain ⟨C, hC⟩ : ∃ C, C = w6.heap.size := ⟨_, rfl⟩
  rw [← hC] at HC7
  rw [← hC]
  have HR7 := Lib.hid (HR6.out.below HB67.out)
  have HB7 := Lib.hid (HB6.out.trans (HB67.out.mono HB6.out.size))
  have hC7 : C < w7.heap.size := (Array.getElem?_eq_some_iff.1 HC7.out).1
  have hB7 : B < w7.heap.size := Nat.lt_of_lt_of_le hBlt HB7.out.size
  have HBX7 : Hid (w7.heap[B]? = _) := (HB7.out.block B hBlt).trans HBX.out
  clear HB67 HR6 HB6 hC
  -- the head
  have hcc := Go.Lib.run_convert_bytes_const (P := Tryz.prog) w7 35 5 #[.int .u8 71, .int .u8 89, .int .u8 83, .int .u8 49] 4 4 Tryz.underlying35 Tryz.underlying5
  have hG : (w7.alloc (.cells #[.int .u8 71, .int .u8 89, .int .u8 83, .int .u8 49] 5 (4, 5))).heap[w7.heap.size]? = some (.cells #[.int .u8 71, .int .u8 89, .int .u8 83, .int .u8 49] 5 (4, 5)) := heap_alloc_last w7 _
  have HG : Hid (BytesIn (w7.alloc (.cells #[.int .u8 71, .int .u8 89, .int .u8 83, .int .u8 49] 5 (4, 5))) w7.heap.size 0 [71, 89, 83, 49]) := fun j hj => by
    have hj4 : j < 4 := hj
    rw [cell_of_row _ _ _ _ _ _ hG]
    match j, hj4 with
    | 0, _ => rfl
    | 1, _ => rfl
    | 2, _ => rfl
    | 3, _ => rfl
  have HB8 : Hid (Below w7.heap.size w7 (w7.alloc (.cells #[.int .u8 71, .int .u8 89, .int .u8 83, .int .u8 49] 5 (4, 5)))) := (Below.refl _ _).alloc (Nat.le_refl _) _
  have HWD : Hid (∀ w, Calls Tryz.prog 36 #[.int .u64 ((48 + R.length : Nat) : Int), .int .i64 4] w fun e w' => e = .returned (.slice (some ⟨w.heap.size, 0, none⟩) 4 4) ∧ NewTo w w' (wideN (48 + R.length) 4) 4) := fun w => wide_any (48 + R.length) 4 w (by omega) (by omega)
  obtain ⟨Z, hZ⟩ : ∃ Z, Z = 48 + R.length := ⟨_, rfl⟩
  have hZ2 : (48 : Int) + (R.length : Int) = (Z : Int) := by omega
  rw [← hZ] at HWD
  have HZE := Lib.hid hZ
  have hZb : Z ≤ 30000 := by omega
  clear hG hZ
  go_wp2_with fail
  (with_reducible refine (HWD.out _).mono ?_)
  rintro e w8 ⟨rfl, hn8⟩
  have HG8 := Lib.hid (HG.out.below (Nat.le_refl _) hn8.below)
  have HY8 := Lib.hid (hn8.one (wideN_len _ _) (wideN_byte _ _) (by omega))
  have HB78 := Lib.hid (HB8.out.trans (hn8.below.mono HB8.out.size))
  have hwne : wideN Z 4 ≠ [] := fun e => by have := wideN_len 4 Z; rw [e] at this; simp at this
  obtain ⟨g8, hg8⟩ : ∃ g8, g8 = (w7.alloc (.cells #[.int .u8 71, .int .u8 89, .int .u8 83, .int .u8 49] 5 (4, 5))).heap.size := ⟨_, rfl⟩
  rw [← hg8] at HY8 ⊢
  obtain ⟨g7, hg7⟩ : ∃ g7, g7 = w7.heap.size := ⟨_, rfl⟩
  rw [← hg7] at HG8
  rw [← hg7]
  clear hn8 HG HB8 HWD hcc hg8 hg7
  go_upto_region 4 with (at_builtin; refine wpList_appO _ rfl _ _ rfl g7 4 [71, 89, 83, 49] rfl HG8.out rfl (some ⟨g8, 0, none⟩) 4 4 (wideN Z 4) rfl (wideN_len _ _) HY8.out hwne (by omega) (by rw [wideN_len]; omega) ?_; intro v9 w9 HA9)
  obtain ⟨wd, hwd⟩ : ∃ wd, wd = w9.drew := ⟨_, rfl⟩
  have HAd : Hid (Acc w8 wd v9 ([71, 89, 83, 49] ++ wideN Z 4)) := by rw [hwd]; exact HA9.out.later (Below.refl _ _).drew
  have HBd : Hid (Below w7.heap.size w7 wd) := HB78.out.trans (HAd.out.below.mono HB78.out.size)
  have h78 : w7.heap.size ≤ w8.heap.size := HB78.out.size
  have HNB : Hid (∀ j, v9.ownBlock = some j → w7.heap.size ≤ j) := fun j hj => Nat.le_trans h78 (HAd.out.low j hj)
  have hset : Sl w7 (some ⟨B, 0, none⟩) 8 set := by
    refine ⟨HSB.out, by rw [H8.out]; exact Nat.le_refl _, by unfold maxLen; omega, fun e => (by cases e), .inr ⟨B, 0, rfl, fun i hi => ?_⟩⟩
    have hi8 : i < 8 := by rw [H8.out] at hi; exact hi
    rw [cell_of_block HBX7.out, ← vOf_eq set i hi, Nat.zero_add]
    simp [rowArr, hi8]
  have hdg : Sl w7 (some ⟨C, 0, none⟩) 32 D := by
    refine ⟨HDB.out, by rw [HDL.out]; exact Nat.le_refl _, by unfold maxLen; omega, fun e => (by cases e), .inr ⟨C, 0, rfl, fun i hi => ?_⟩⟩
    have hi8 : i < 32 := by rw [HDL.out] at hi; exact hi
    rw [cell_of_block HC7.out, ← vOf_eq D i hi, Nat.zero_add]
    simp [rowArr, hi8]
  have HST7 := Lib.hid hset
  have HDG7 := Lib.hid hdg
  have kB : ∀ u : KeepW wd (fun j => v9.ownBlock = some j), u.v.heap[B]? = some (.cells (rowArr 8 (vOf set)) 40 (0, 0)) := fun u => (u.h.block B (Nat.lt_of_lt_of_le hB7 HBd.out.size) fun e => by have := HNB.out B e; omega).trans ((HBd.out.block B hB7).trans HBX7.out)
  clear HA9 hset hdg HBX7 HC7 hwne HG8 HY8
  refine growK_begin 5 (fun w' => ∃ u : KeepW wd (fun j => v9.ownBlock = some j), w' = u.v) (by kernel_rfl) ?_
  rw [← hwd]
  clear hwd
  refine growK_take (by kernel_rfl) [0, 1, 3] 3 _ _ (by kernel_rfl) _ (keep_class (Fr.refl _ _)) ?_
  simp only [opsAt, List.getElem?_toArray, List.getElem?_cons_succ, List.getElem?_cons_zero]
  repeat (first | go_big_quiet_step (fail) | quiet_step (fail))
  refine wpQuiet_nil ?_
  clear kB
  refine growK_one 2 (by kernel_rfl) (fun K hK => ?_)
  simp only [stepOf, List.getElem?_toArray, List.getElem?_cons_succ, List.getElem?_cons_zero]
  rw [if_pos (by rfl)]
  refine wp_addB _ (.tmp 29) (.tmp 30) rfl v9 ([71, 89, 83, 49] ++ wideN Z 4) rfl HAd.out.own (some ⟨B, 0, none⟩) 8 8 set rfl H8.out (HST7.out.below HBd.out) (by rw [List.length_append, wideN_len, H8.out]; simp) ?_
  intro v10 w10 o10 g10 e10
  have HA10 := Lib.hid (HAd.out.add o10.out g10.out e10.out)
  have fr10 : Hid (Fr (fun j => v9.ownBlock = some j) wd w10) := Fr.of_grown g10.out fun b e => e
  have HOW : Hid (∀ j, v10.ownBlock = some j → v9.ownBlock = some j ∨ wd.heap.size ≤ j) := fun j hj => by
    rcases e10.out with h | h
    · exact .inl (by rw [← h]; exact hj)
    · rw [h] at hj
      have := Option.some.inj hj
      exact .inr (by omega)
  have HB10 : Hid (Below w7.heap.size w7 w10) := HBd.out.trans (fr10.out.below HBd.out.size fun j hj e => by have := HNB.out j e; omega)
  refine hK.out _ _ (keep_class fr10.out) ?_
  clear hK K o10 g10 e10 HAd
  refine growK_one 4 (by kernel_rfl) (fun K hK => ?_)
  simp only [stepOf, List.getElem?_toArray, List.getElem?_cons_succ, List.getElem?_cons_zero]
  rw [if_pos (by rfl)]
  refine wp_addB _ (.tmp 31) (.tmp 32) rfl v10 ([71, 89, 83, 49] ++ wideN Z 4 ++ set) rfl HA10.out.own (some ⟨C, 0, none⟩) 32 32 D rfl HDL.out (HDG7.out.below HB10.out) (by rw [List.length_append, List.length_append, wideN_len, H8.out, HDL.out]; simp) ?_
  intro v11 w11 o11 g11 e11
  have HA11 := Lib.hid (HA10.out.add o11.out g11.out e11.out)
  have fr11 : Hid (Fr (fun j => v9.ownBlock = some j) wd w11) := fr10.out.over (Fr.of_grown (X := fun j => v10.ownBlock = some j) g11.out fun b e => e) HOW.out
  have HB11 : Hid (Below w7.heap.size w7 w11) := HBd.out.trans (fr11.out.below HBd.out.size fun j hj e => by have := HNB.out j e; omega)
  refine hK.out _ _ (keep_class fr11.out) ?_
  clear hK K o11 g11 e11 HA10
  refine growK_last (by kernel_rfl) (by kernel_rfl) (fun K hK => ?_)
  simp only [stepOf, List.getElem?_toArray, List.getElem?_cons_succ, List.getElem?_cons_zero]
  go_simp
  refine hK.out _ _ ?_
  clear hK K fr10 fr11 HOW
  go_wp2_with (at_builtin; refine wpList_acc _ rfl _ _ rfl v11 ([71, 89, 83, 49] ++ wideN Z 4 ++ set ++ D) rfl HA11.out ar cr R.length R rfl rfl (HR7.out.below HB11.out) (by rw [List.length_append, List.length_append, List.length_append, wideN_len, H8.out, HDL.out]; simp; omega) ?_; intro v12 w12 HA12)
  go_ret
  exact ⟨v12, rfl, by unfold bytesN; rw [HRE.out, HDE.out, ← HZE.out]; exact HA12.out.base (HB7.out.trans (HB78.out.mono HB7.out.size) |> fun h => HB0.out.trans (h.mono HB0.out.size))⟩
end Go.Proofs.YtcopjbapglndgaaGreatDoor
end

section
namespace Go.Proofs.YtcopjbapglndgaaGreatDoor
open Go.ChangeShapes Go.WideShapes Go.ChangeAt Go.RowKit Go.Joins
set_option linter.unusedVariables false

/-- What is known of a slice: its length, CRC, digest. -/
structure Sm where
  n : Int
  crc : Nat
  dg : List Nat
instance : Inhabited Sm := ⟨⟨0, 0, []⟩⟩
def SmOk (x : Sm) : Prop := i64R x.n ∧ x.crc < 4294967296 ∧ x.dg.length = 32 ∧ IsByte x.dg
/-- Its 34 cells, from a place on. -/
def SmAt (w : World) (p off : Nat) (x : Sm) : Prop := w.cell? ⟨p, off, none⟩ = some (.int .i64 x.n) ∧ w.cell? ⟨p, off + 1, none⟩ = some (.int .u32 (x.crc : Int)) ∧ BytesIn w p (off + 2) x.dg
theorem SmAt.below {w w' : World} {p off : Nat} {x : Sm} (h : SmAt w p off x) (k : Below w.heap.size w w') : SmAt w' p off x := by
  obtain ⟨h0, h1, h2⟩ := h
  have hp : p < w.heap.size := World.block_lt_of_cell? w _ h0
  exact ⟨(k.cell (p := ⟨p, off, none⟩) hp).trans h0, (k.cell (p := ⟨p, off + 1, none⟩) hp).trans h1, h2.below (Nat.le_refl _) k⟩
/-- The slice '.slice a l.length cap' reads as these. -/
structure Sms (w : World) (a : Option Addr) (cap : Nat) (l : List Sm) : Prop where
  rng : ∀ x ∈ l, SmOk x
  len : l.length ≤ cap
  most : cap ≤ maxLen
  here : l = [] ∨ ∃ b off, a = some ⟨b, off, none⟩ ∧ b < w.heap.size ∧ ∀ i (h : i < l.length), SmAt w b (off + i * 34) l[i]
theorem Sms.below {w w' : World} {a : Option Addr} {cap : Nat} {l : List Sm} (h : Sms w a cap l) (k : Below w.heap.size w w') : Sms w' a cap l :=
  ⟨h.rng, h.len, h.most, by
    rcases h.here with e | ⟨b, off, e, hb, hc⟩
    · exact .inl e
    · exact .inr ⟨b, off, e, Nat.lt_of_lt_of_le hb k.size, fun i hi => (hc i hi).below k⟩⟩
theorem sms_one {w : World} {a : Option Addr} {cap : Nat} {l : List Sm} (h : Sms w a cap l) {i : Nat} (hi : i < l.length) : ∃ b off, a = some ⟨b, off, none⟩ ∧ b < w.heap.size ∧ SmAt w b (off + i * 34) l[i] := by
  rcases h.here with rfl | ⟨b, off, e, hb, hc⟩
  · simp at hi
  · exact ⟨b, off, e, hb, hc i hi⟩
theorem Sms.lt {w : World} {a : Option Addr} {cap : Nat} {l : List Sm} (h : Sms w a cap l) : l.length ≤ 9223372036854775807 := by
  have h1 := h.len; have h2 := h.most; unfold maxLen at h2; omega
/-- The body of a packet of sums. -/
def sumN (x : Sm) : List Nat := wideN (u64N x.n) 2 ++ wideN x.crc 4 ++ x.dg
def sumsN (i : Int) (l : List Sm) : List Nat := [u8N i] ++ wideN l.length 2 ++ (l.map sumN).flatten
theorem sumN_len {x : Sm} (h : SmOk x) : (sumN x).length = 38 := by unfold sumN; rw [List.length_append, List.length_append, wideN_len, wideN_len, h.2.2.1]
theorem sums_next {l : List Sm} {k : Nat} (h : k < l.length) : ((l.take (k + 1)).map sumN).flatten = ((l.take k).map sumN).flatten ++ sumN l[k] := by
  rw [List.take_succ_eq_append_getElem h, List.map_append, List.flatten_append]
  simp
theorem sums_len {l : List Sm} (h : ∀ x ∈ l, SmOk x) : ((l.map sumN).flatten).length = 38 * l.length := by
  induction l with
  | nil => rfl
  | cons x l ih =>
    rw [List.map_cons, List.flatten_cons, List.length_append, sumN_len (h x (by simp)), ih fun y hy => h y (by simp [hy]), List.length_cons]
    omega

set_option maxRecDepth 1000000 in
set_option maxHeartbeats 4000000 in
theorem refSums_any (i : Int) (a : Option Addr) (cap : Nat) (l : List Sm) (w : World) (hi : i64R i) (hs : Sms w a cap l) (hl : l.length ≤ 1000) :
    Calls Tryz.prog 55 #[.int .i64 i, .slice a l.length cap] w fun e w' => ∃ v, e = .returned v ∧ Acc w w' v (sumsN i l) := by
  have mixed : Tryz.prog.follows .mixedOrders = true := by kernel_rfl
  have HS := Lib.hid hs
  have hlm := hs.lt
  have hl1 := hs.len
  have hcm : cap ≤ 9223372036854775807 := by have := hs.most; unfold maxLen at this; omega
  have e1 := u8_wrap i
  have h1 := u8N_lt i
  obtain ⟨I, hI⟩ : ∃ I, I = u8N i := ⟨_, rfl⟩
  have HRES : Hid (sumsN i l = [I] ++ wideN l.length 2 ++ (l.map sumN).flatten) := by unfold sumsN; rw [hI]; rfl
  rw [← hI] at e1 h1
  have HA1 : Hid (Acc w (w.alloc (.cells #[.int .u8 (I : Int)] 5)) (.slice (some ⟨w.heap.size, 0, none⟩) 1 1) [I]) := ⟨OwnB.of_row (row_of_cells w [I] _ rfl) rfl (by unfold maxLen; simp), fun j hj => by
    have : w.heap.size = j := by simpa [Value.ownBlock] using hj
    omega, (Below.refl _ _).alloc (Nat.le_refl _) _⟩
  have HW1 : Hid (∀ w, Calls Tryz.prog 36 #[.int .u64 (l.length : Int), .int .i64 2] w fun e w' => e = .returned (.slice (some ⟨w.heap.size, 0, none⟩) 2 2) ∧ NewTo w w' (wideN l.length 2) 2) := fun w => wide_any l.length 2 w (by omega) (by omega)
  clear hI hi hs
  go_enter Tryz.func55, Tryz.ntmps55
  go_wp2_with fail
  (with_reducible refine (HW1.out _).mono ?_)
  rintro e w2 ⟨rfl, hn2⟩
  have HA2 := Lib.hid (HA1.out.later hn2.below)
  have HY2 := Lib.hid (hn2.one (wideN_len _ _) (wideN_byte _ _) (by omega))
  obtain ⟨g2, hg2⟩ : ∃ g2, g2 = (w.alloc (.cells #[.int .u8 (I : Int)] 5)).heap.size := ⟨_, rfl⟩
  rw [← hg2] at HY2 ⊢
  clear hn2 HA1 HW1 hg2
  go_upto_region 3 with (at_builtin; refine wpList_acc _ rfl _ _ rfl (.slice (some ⟨w.heap.size, 0, none⟩) 1 1) [I] rfl HA2.out (some ⟨g2, 0, none⟩) 2 2 (wideN l.length 2) rfl (wideN_len _ _) HY2.out (by rw [wideN_len]; simp) ?_; intro v3 w3 HA3)
  clear HA2 HY2 e1
  have HA0 : Hid (Acc w w3 v3 ([I] ++ wideN l.length 2 ++ ((l.take 0).map sumN).flatten)) := by
    have h := HA3.out
    show Acc _ _ _ _
    simpa using h
  clear HA3
  go_loopw [5, 17] (fun s5 j wr => ∃ k : Nat, k ≤ l.length ∧ j = .int .i64 (k : Int) ∧ Hid (Acc w wr s5 ([I] ++ wideN l.length 2 ++ ((l.take k).map sumN).flatten))) (fun _ j _ => l.length - (intOf j).toNat)
  case atStart => exact ⟨0, by omega, rfl, HA0⟩
  case round =>
    obtain ⟨k, hk, rfl, HA⟩ := hrel
    clear HA0
    by_cases hlt : k < l.length
    · obtain ⟨b, off, rfl, hb, hx0, hx1, hx2⟩ := sms_one (HS.out.below HA.out.below) hlt
      obtain ⟨q1, q2, q3, q4⟩ := HS.out.rng _ (List.getElem_mem hlt)
      have hkz : (k : Int) < (l.length : Int) := by omega
      have HNX := Lib.hid (sums_next hlt)
      have HLN : Hid (((l.take k).map sumN).flatten.length ≤ 38000) := by
        have h := sums_len (l := l.take k) fun x hx => HS.out.rng x (List.mem_of_mem_take hx)
        rw [List.length_take, Nat.min_eq_left hk] at h
        show _ ≤ _
        omega
      obtain ⟨P, hP⟩ : ∃ P, P = [I] ++ wideN l.length 2 ++ ((l.take k).map sumN).flatten := ⟨_, rfl⟩
      have hPl : P.length ≤ 38003 := by
        rw [hP, List.length_append, List.length_append, wideN_len]
        have := HLN.out
        simp only [List.length_singleton]
        omega
      have HPE : Hid ([I] ++ wideN l.length 2 ++ ((l.take (k + 1)).map sumN).flatten = P ++ sumN l[k]) := by
        show _ = _
        rw [HNX.out, hP]
        simp [List.append_assoc]
      rw [← hP] at HA
      clear hP HNX HLN
      obtain ⟨x, hx⟩ : ∃ x, x = l[k] := ⟨_, rfl⟩
      rw [← hx] at hx0 hx1 hx2 q1 q2 q3 q4 HPE
      clear hx
      obtain ⟨n, crc, dg⟩ := x
      simp only at hx0 hx1 hx2 q1 q2 q3 q4
      have hn1 := q1.1
      have hn2 := q1.2
      have e3 := u64_wrap n
      obtain ⟨S, hS⟩ : ∃ S, S = u64N n := ⟨_, rfl⟩
      have hS2 : S < 18446744073709551616 := by rw [hS]; exact u64N_lt _
      rw [← hS] at e3
      have HSU : Hid (sumN ⟨n, crc, dg⟩ = wideN S 2 ++ wideN crc 4 ++ dg) := by unfold sumN; rw [hS]; rfl
      clear hS
      obtain ⟨wd, hwd⟩ : ∃ wd, wd = wr.drew := ⟨_, rfl⟩
      have HAd : Hid (Acc w wd u5 P) := by rw [hwd]; exact HA.out.later (Below.refl _ _).drew
      have hb0 : b < w.heap.size := by
        obtain ⟨b', off', e, hb', _⟩ := sms_one HS.out hlt
        cases e
        exact hb'
      have hbd : b < wd.heap.size := Nat.lt_of_lt_of_le hb0 HAd.out.below.size
      have hbo : ¬ u5.ownBlock = some b := fun e => by have := HAd.out.low b e; omega
      have d0 : wd.cell? ⟨b, off + k * 34, none⟩ = some (.int .i64 n) := by rw [hwd]; exact hx0
      have d1 : wd.cell? ⟨b, off + k * 34 + 1, none⟩ = some (.int .u32 (crc : Int)) := by rw [hwd]; exact hx1
      have k0 : ∀ u : KeepW wd (fun j => u5.ownBlock = some j), u.v.cell? ⟨b, off + k * 34, none⟩ = some (.int .i64 n) := fun u => (u.cell hbd hbo).trans d0
      have k1 : ∀ u : KeepW wd (fun j => u5.ownBlock = some j), u.v.cell? ⟨b, off + k * 34 + 1, none⟩ = some (.int .u32 (crc : Int)) := fun u => (u.cell hbd hbo).trans d1
      have HDD : Hid (Sl wd (some ⟨b, off + k * 34 + 2, none⟩) 32 dg) := ⟨q4, by rw [q3]; exact Nat.le_refl _, by unfold maxLen; omega, fun e => (by cases e), .inr ⟨b, _, rfl, by rw [hwd]; exact hx2⟩⟩
      have HW4 : Hid (Calls Tryz.prog 36 #[.int .u64 (S : Int), .int .i64 2] wd fun e w' => e = .returned (.slice (some ⟨wd.heap.size, 0, none⟩) 2 2) ∧ NewTo wd w' (wideN S 2) 2) := wide_any S 2 wd hS2 (by omega)
      have HW5 : Hid (∀ w, Calls Tryz.prog 36 #[.int .u64 (crc : Int), .int .i64 4] w fun e w' => e = .returned (.slice (some ⟨w.heap.size, 0, none⟩) 4 4) ∧ NewTo w w' (wideN crc 4) 4) := fun w => wide_any crc 4 w (by omega) (by omega)
      have Q3 := Lib.hid q3
      clear d0 d1 HA hx0 hx1 hx2 q1 q4 q3
      go_upto_region 5 with fail
      refine growK_begin 23 (fun w' => ∃ u : KeepW wd (fun j => u5.ownBlock = some j), w' = u.v) (by kernel_rfl) ?_
      rw [← hwd]
      clear hwd
      refine growK_take (by kernel_rfl) [0, 1, 2, 3, 4, 5, 6, 9, 10, 11, 12, 13, 14, 17, 18, 19, 20, 21] 6 _ _ (by kernel_rfl) _ (keep_class (Fr.refl _ _)) ?_
      simp only [opsAt, List.getElem?_toArray, List.getElem?_cons_succ, List.getElem?_cons_zero]
      repeat (first | go_big_quiet_step (fail) | quiet_step (fail))
      refine wpQuiet_nil ?_
      clear k0 k1 e3
      refine growK_one 7 (by kernel_rfl) (fun K hK => ?_)
      simp only [stepOf, List.getElem?_toArray, List.getElem?_cons_succ, List.getElem?_cons_zero]
      go_simp
      go_at_call 36
      (with_reducible refine HW4.out.mono ?_)
      rintro e w4 ⟨rfl, hn4⟩
      have HA4 := Lib.hid (HAd.out.later hn4.below)
      have HY4 := Lib.hid (hn4.one (wideN_len _ _) (wideN_byte _ _) (by omega))
      have fr4 : Hid (Fr (fun j => u5.ownBlock = some j) wd w4) := Fr.of_below hn4.below
      refine hK.out _ _ (keep_class fr4.out) ?_
      clear hK K hn4 HW4
      refine growK_one 8 (by kernel_rfl) (fun K hK => ?_)
      simp only [stepOf, List.getElem?_toArray, List.getElem?_cons_succ, List.getElem?_cons_zero]
      rw [if_pos (by rfl)]
      refine wp_addB _ (.tmp 20) (.tmp 27) rfl u5 P rfl HA4.out.own (some ⟨wd.heap.size, 0, none⟩) 2 2 (wideN S 2) rfl (wideN_len _ _) HY4.out (by rw [wideN_len]; omega) ?_
      intro v5 w5 o5 g5 e5
      have HA5 := Lib.hid (HA4.out.add o5.out g5.out e5.out)
      have fr5 : Hid (Fr (fun j => u5.ownBlock = some j) wd w5) := fr4.out.trans (Fr.of_grown g5.out fun b e => e)
      have HO5 : Hid (∀ j, v5.ownBlock = some j → u5.ownBlock = some j ∨ wd.heap.size ≤ j) := fun j hj => by
        rcases e5.out with h | h
        · exact .inl (by rw [← h]; exact hj)
        · rw [h] at hj
          have := Option.some.inj hj
          have := fr4.out.size
          exact .inr (by omega)
      refine hK.out _ _ (keep_class fr5.out) ?_
      clear hK K o5 g5 e5 HA4 HY4 fr4
      refine growK_one 15 (by kernel_rfl) (fun K hK => ?_)
      simp only [stepOf, List.getElem?_toArray, List.getElem?_cons_succ, List.getElem?_cons_zero]
      go_simp
      go_at_call 36
      (with_reducible refine (HW5.out w5).mono ?_)
      rintro e w6 ⟨rfl, hn6⟩
      have HA6 := Lib.hid (HA5.out.later hn6.below)
      have HY6 := Lib.hid (hn6.one (wideN_len _ _) (wideN_byte _ _) (by omega))
      have fr6 : Hid (Fr (fun j => u5.ownBlock = some j) wd w6) := fr5.out.later hn6.below
      refine hK.out _ _ (keep_class fr6.out) ?_
      clear hK K hn6 HW5 HA5 fr5
      refine growK_one 16 (by kernel_rfl) (fun K hK => ?_)
      simp only [stepOf, List.getElem?_toArray, List.getElem?_cons_succ, List.getElem?_cons_zero]
      rw [if_pos (by rfl)]
      refine wp_addB _ (.tmp 28) (.tmp 35) rfl v5 (P ++ wideN S 2) rfl HA6.out.own (some ⟨w5.heap.size, 0, none⟩) 4 4 (wideN crc 4) rfl (wideN_len _ _) HY6.out (by rw [List.length_append, wideN_len, wideN_len]; omega) ?_
      intro v7 w7 o7 g7 e7
      have HA7 := Lib.hid (HA6.out.add o7.out g7.out e7.out)
      have fr7 : Hid (Fr (fun j => u5.ownBlock = some j) wd w7) := fr6.out.over (Fr.of_grown (X := fun j => v5.ownBlock = some j) g7.out fun b e => e) HO5.out
      have HO7 : Hid (∀ j, v7.ownBlock = some j → u5.ownBlock = some j ∨ wd.heap.size ≤ j) := fun j hj => by
        rcases e7.out with h | h
        · exact HO5.out j (by rw [← h]; exact hj)
        · rw [h] at hj
          have := Option.some.inj hj
          have := fr6.out.size
          exact .inr (by omega)
      have HB7 : Hid (Sl w7 (some ⟨b, off + k * 34 + 2, none⟩) 32 dg) := HDD.out.of_block fun p hp hl => by
        cases hp
        exact fr7.out.block b hbd hbo
      refine hK.out _ _ (keep_class fr7.out) ?_
      clear hK K o7 g7 e7 HA6 HY6 fr6 HO5 HDD
      refine growK_one 22 (by kernel_rfl) (fun K hK => ?_)
      simp only [stepOf, List.getElem?_toArray, List.getElem?_cons_succ, List.getElem?_cons_zero]
      rw [if_pos (by rfl)]
      refine wp_addB _ (.tmp 36) (.tmp 41) rfl v7 (P ++ wideN S 2 ++ wideN crc 4) rfl HA7.out.own (some ⟨b, off + k * 34 + 2, none⟩) 32 32 dg rfl Q3.out HB7.out (by rw [List.length_append, List.length_append, wideN_len, wideN_len, Q3.out]; omega) ?_
      intro v8 w8 o8 g8 e8
      have HA8 := Lib.hid (HA7.out.add o8.out g8.out e8.out)
      have fr8 : Hid (Fr (fun j => u5.ownBlock = some j) wd w8) := fr7.out.over (Fr.of_grown (X := fun j => v7.ownBlock = some j) g8.out fun b e => e) HO7.out
      refine hK.out _ _ (keep_class fr8.out) ?_
      clear hK K o8 g8 e8 HA7 HB7 fr7 HO7
      refine growK_last (by kernel_rfl) (by kernel_rfl) (fun K hK => ?_)
      simp only [stepOf, List.getElem?_toArray, List.getElem?_cons_succ, List.getElem?_cons_zero]
      go_simp
      refine hK.out _ _ ?_
      have HAN : Hid (Acc w w8 v8 ([I] ++ wideN l.length 2 ++ ((l.take (k + 1)).map sumN).flatten)) := by
        show Acc _ _ _ _
        rw [HPE.out, HSU.out]
        have h := HA8.out
        simpa [List.append_assoc] using h
      clear hK K fr8 HA8 HPE HSU
      go_wp2_with fail
      go_roundw
      case rel => exact ⟨k + 1, by omega, by go_num, HAN⟩
      case measure => simp [intOf]; omega
    · obtain rfl : k = l.length := by omega
      rw [List.take_length, ← HRES.out] at HA
      go_wp2_with fail
      go_ret
      exact ⟨_, rfl, HA.out⟩
end Go.Proofs.YtcopjbapglndgaaGreatDoor
end
