/-
  Digests, in the words of the other texts: package sum's and the document's, of any bytes.
  Bytes gathered by append: slices, strings; the document's File and Bytes.
  The document's Bytes: a packet's bytes.
  What is known of slices (api.Slice) in memory; the document's Sums.
  Packets: plain mathematics. What a packet's bytes are, and that they tell the packet.
  Structs that hold arrays: a part of a block loaded as one value; files' entries compared.
-/
import Derived.Test.YtfgaohilpbocbaaGreatDoorMm8
import Derived.Lib.AppendStr
import Derived.Lib.SlBytesConst
import Derived.Laws.Tables
import Derived.Laws.Rows
import Derived.Laws.Append
import Derived.Laws.StructEq
import Derived.Stop.BytesEq
section
namespace Go.Proofs.YtfgaohilpbocbaaGreatDoor
open Go.ChangeShapes Go.WideShapes Go.ChangeAt Go.RowKit Go.Joins
set_option linter.unusedVariables false

/-- The digest of bytes. -/
def dgN (l : List Nat) : List Nat := Sha.digestN l
theorem dgN_len (l : List Nat) : (dgN l).length = 32 := by simp [dgN, Sha.digestN, Sha.spellN]
theorem dgN_byte (l : List Nat) : IsByte (dgN l) := by
  intro n hn
  unfold dgN Sha.digestN Sha.spellN at hn
  obtain ⟨i, _, rfl⟩ := List.mem_map.1 hn
  exact Nat.mod_lt _ (by omega)
theorem dg_row (l : List Nat) : Sha.rowArr 32 (Sha.spV (Sha.comp (Sha.padN l) ((Sha.padN l).length / 64))) = rowArr 32 (vOf (dgN l)) := by
  unfold Sha.rowArr rowArr dgN Sha.digestN
  congr 1
/-- The tables of package sum, as they are laid. -/
def Tabs (w : World) : Prop := Sha.Ks w ∧ Sha.Starts w
theorem Tabs.below {w w' : World} (h : Tabs w) (k : Below w.heap.size w w') : Tabs w' := by
  refine ⟨h.1.below h.1.lt k, ?_⟩
  obtain ⟨t, fr, e⟩ := h.2
  exact ⟨t, fr, (k.block _ (Array.getElem?_eq_some_iff.1 e).1).trans e⟩
theorem sl_sha {w : World} {a : Option Addr} {c : Nat} {l : List Nat} (h : Sl w a c l) : Sha.BytesAt w a l := h.here
theorem digest_sl (a : Option Addr) (c : Nat) (l : List Nat) (w : World) (hs : Sl w a c l) (hl : l.length ≤ 1000000) (ht : Tabs w) :
    Calls Tryz.prog 57 #[.slice a l.length c] w fun e w' => e = .returned (.agg (rowArr 32 (vOf (dgN l)))) ∧ Below w.heap.size w w' := by
  rw [← dg_row]
  exact Sha.digest_any a c l w hl hs.len hs.most hs.byte (sl_sha hs) ht.1 ht.2
theorem refDigest_sl (a : Option Addr) (c : Nat) (l : List Nat) (w : World) (hs : Sl w a c l) (hl : l.length ≤ 1000000) :
    Calls Tryz.prog 39 #[.slice a l.length c] w fun e w' => e = .returned (.agg (rowArr 32 (vOf (dgN l)))) ∧ Below w.heap.size w w' := by
  rw [← dg_row]
  exact Sha.ref_core a c l _ rfl w hl (fun e => ⟨by rw [(hs.none e).1]; rfl, (hs.none e).2⟩) hs.byte (sl_sha hs)
end Go.Proofs.YtfgaohilpbocbaaGreatDoor
end

section
namespace Go.Proofs.YtfgaohilpbocbaaGreatDoor
open Go.ChangeShapes Go.WideShapes Go.ChangeAt Go.RowKit Go.Joins
set_option linter.unusedVariables false

theorem wpList_acc {ops : Array Oper} {rest : List Oper} {o : Oper} {a : Act} {Q : Exit → Act → World → Prop} {w0 : World} (w : World) (hgd : o.guard = none) (s x : Operand)
    (ho : o.op = .call { callee := .builtin .append, args := #[s, x], argTypes := #[53, 53] })
    (v : Value) (l : List Nat) (hsv : a.eval s = v) (hA : Acc w0 w v l) (ga : Option Addr) (gc q : Nat) (m : List Nat) (hxv : a.eval x = .slice ga q gc) (hq : m.length = q) (hs : Sl w ga gc m) (hn : l.length + m.length ≤ 1000000)
    (h : ∀ v' w', Hid (Acc w0 w' v' (l ++ m)) → wpList Tryz.prog ops Q rest (a.put o.dst v') w') : wpList Tryz.prog ops Q (o :: rest) a w :=
  wpList_addB w hgd s x ho v l hsv hA.own ga gc q m hxv hq hs hn fun v' w' o g e => h v' w' (hA.add o.out g.out e.out)
theorem strCells_eq (l : List Nat) (hb : IsByte l) : Lib.strCells (strOf l) = l.map byteV := by
  unfold Lib.strCells strOf
  rw [strOfNums_data, List.map_map, List.map_map]
  apply List.map_congr_left
  intro n hn
  have := hb n hn
  simp [byteV]
  omega
theorem wpList_accS {ops : Array Oper} {rest : List Oper} {o : Oper} {a : Act} {Q : Exit → Act → World → Prop} {w0 : World} (w : World) (hgd : o.guard = none) (s x : Operand)
    (ho : o.op = .call { callee := .builtin .append, args := #[s, x], argTypes := #[53, 9] })
    (v : Value) (l : List Nat) (hsv : a.eval s = v) (hA : Acc w0 w v l) (m : List Nat) (hb : IsByte m) (hxv : a.eval x = .string (strOf m)) (hn : l.length + m.length ≤ 1000000)
    (h : ∀ v' w', Hid (Acc w0 w' v' (l ++ m)) → wpList Tryz.prog ops Q rest (a.put o.dst v') w') : wpList Tryz.prog ops Q (o :: rest) a w := by
  obtain ⟨i0, hi, hz0, hz1, hz2⟩ := info_parts info8C
  have hown : w.ownsRow w0.heap.size 5 1 v l.length (l.map byteV) := by
    refine ⟨hA.own.1, ?_⟩
    rcases hA.own.2 with h | ⟨g, cap, cur, e, _, r⟩
    · exact .inl h
    · exact .inr ⟨g, cap, cur, e, hA.low g (by rw [e]; rfl), r⟩
  refine Lib.wpList_append_own_string w hgd s x 53 9 ho w0.heap.size 5 i0 Tryz.underlying53 Tryz.underlying9 hi hz0 hz1 hz2 v l.length (l.map byteV) hsv hown (strOf m) hxv (by rw [strOf_size]; unfold maxLen; omega) (by rw [strOf_size]; omega) hA.below.size ?_
  intro v' w' h1 h2 _
  rw [strCells_eq m hb, strOf_size] at h1
  refine h v' w' ⟨⟨by simp, ?_⟩, fun j hj => (World.ownsRow.lt h1 j hj).1, hA.below.grown h2 hA.below.size fun k hk => hA.low k hk⟩
  rcases h1.2 with ⟨e, e2⟩ | ⟨g, cap, cur, e, hg, r⟩
  · exact .inl ⟨e, by rw [List.length_append]; exact e2⟩
  · refine .inr ⟨g, cap, cur, by rw [List.length_append]; exact e, Nat.zero_le _, ?_⟩
    rw [List.length_append, List.map_append]
    exact r

/-- A file's entry: its name, length, digest, where its slices begin. -/
structure Fil where
  name : List Nat
  size : Int
  dg : List Nat
  first : Int
structure FilOk (f : Fil) : Prop where
  byte : IsByte f.name
  size : i64R f.size
  first : i64R f.first
  dgl : f.dg.length = 32
  dgb : IsByte f.dg
  short : f.name.length ≤ 9223372036854775807
/-- Its 35 cells. -/
def filV (f : Fil) (j : Nat) : Value := if j = 0 then .string (strOf f.name) else if j = 1 then .int .i64 f.size else if j < 34 then vOf f.dg (j - 2) else .int .i64 f.first
theorem filV_at (f : Fil) (w : World) (b : Nat) (t : TypeId) (h : w.heap[b]? = some (.cells (rowArr 35 (filV f)) t (0, 0))) : w.cell? ⟨b, 0, none⟩ = some (.string (strOf f.name)) ∧ w.cell? ⟨b, 1, none⟩ = some (.int .i64 f.size) ∧ w.cell? ⟨b, 34, none⟩ = some (.int .i64 f.first) := by
  have k : ∀ j, j < 35 → w.cell? ⟨b, j, none⟩ = some (filV f j) := fun j hj => by rw [cell_of_block h]; simp [rowArr, hj]
  exact ⟨k 0 (by omega), k 1 (by omega), k 34 (by omega)⟩
theorem filV_dg (f : Fil) (hf : FilOk f) (w : World) (b : Nat) (t : TypeId) (h : w.heap[b]? = some (.cells (rowArr 35 (filV f)) t (0, 0))) : Sl w (some ⟨b, 2, none⟩) 32 f.dg := by
  refine ⟨hf.dgb, by rw [hf.dgl]; exact Nat.le_refl _, by unfold maxLen; omega, fun e => (by cases e), .inr ⟨b, 2, rfl, fun i hi => ?_⟩⟩
  have hi2 := hi
  rw [hf.dgl] at hi2
  have e : filV f (2 + i) = vOf f.dg i := by
    unfold filV
    rw [if_neg (by omega), if_neg (by omega), if_pos (by omega), show 2 + i - 2 = i by omega]
  rw [cell_of_block h, ← vOf_eq f.dg i hi, ← e]
  simp [rowArr, show 2 + i < 35 by omega]
/-- The body of a file's packet. -/
def fileN (i : Int) (f : Fil) : List Nat := [u8N i, u8N f.name.length] ++ f.name ++ wideN (u64N f.size) 4 ++ f.dg ++ wideN (u64N f.first) 2

theorem two_row (w : World) (a b : Nat) : Row (w.alloc (.cells #[.int .u8 (a : Int), .int .u8 (b : Int)] 5)) w.heap.size 5 2 2 (vOf [a, b]) := row_of_cells w [a, b] _ rfl
set_option maxRecDepth 100000 in
set_option maxHeartbeats 2000000 in
theorem refFile_any (i : Int) (f : Fil) (w : World) (hi : i64R i) (hf : FilOk f) (hl : f.name.length ≤ 100000) :
    Calls Tryz.prog 90 #[.int .i64 i, .agg (rowArr 35 (filV f))] w fun e w' => ∃ v, e = .returned v ∧ Acc w w' v (fileN i f) := by
  have mixed : Tryz.prog.follows .mixedOrders = true := by kernel_rfl
  have HF := Lib.hid hf
  have HBX : Hid ((w.alloc (.cells (rowArr 35 (filV f)) 98)).heap[w.heap.size]? = some (.cells (rowArr 35 (filV f)) 98 (0, 0))) := heap_alloc_last w _
  have HB0 : Hid (Below w.heap.size w (w.alloc (.cells (rowArr 35 (filV f)) 98))) := (Below.refl _ _).alloc (Nat.le_refl _) _
  obtain ⟨arr, harr⟩ : ∃ arr, arr = rowArr 35 (filV f) := ⟨_, rfl⟩
  rw [← harr] at HBX HB0 ⊢
  have HAR := Lib.hid harr
  have HIR := Lib.hid hi
  clear harr hf
  have e1 := u8_wrap i
  have e2 := u8_wrap (f.name.length : Int)
  have h1 := u8N_lt i
  have h2 := u8N_lt (f.name.length : Int)
  have e3 := u64_wrap f.size
  have e4 := u64_wrap f.first
  obtain ⟨I, hI⟩ : ∃ I, I = u8N i := ⟨_, rfl⟩
  obtain ⟨J, hJ⟩ : ∃ J, J = u8N (f.name.length : Int) := ⟨_, rfl⟩
  obtain ⟨S, hS⟩ : ∃ S, S = u64N f.size := ⟨_, rfl⟩
  obtain ⟨F, hF⟩ : ∃ F, F = u64N f.first := ⟨_, rfl⟩
  have hS2 : S < 18446744073709551616 := by rw [hS]; exact u64N_lt _
  have hF2 : F < 18446744073709551616 := by rw [hF]; exact u64N_lt _
  have HRES : Hid (fileN i f = [I, J] ++ f.name ++ wideN S 4 ++ f.dg ++ wideN F 2) := by unfold fileN; rw [hI, hJ, hS, hF]; rfl
  rw [← hI] at e1 h1
  rw [← hJ] at e2 h2
  rw [← hS] at e3
  rw [← hF] at e4
  clear hI hJ hS hF hi
  go_enter Tryz.func90, Tryz.ntmps90
  go_upto_region 1 with fail
  obtain ⟨w1, hw1⟩ : ∃ w1, w1 = w.alloc (.cells arr 98) := ⟨_, rfl⟩
  obtain ⟨B, hB⟩ : ∃ B, B = w.heap.size := ⟨_, rfl⟩
  rw [← hw1, ← hB] at HBX
  rw [← hw1] at HB0
  rw [← hw1, ← hB]
  have hwB : w.heap.size ≤ B := by omega
  clear hw1 hB
  rw [HAR.out] at HBX
  obtain ⟨c0, c1, c34⟩ := filV_at f w1 B _ HBX.out
  have HD1 := Lib.hid (filV_dg f HF.out w1 B _ HBX.out)
  have hBlt : B < w1.heap.size := World.block_lt_of_cell? w1 ⟨B, 0, none⟩ c0
  have hsz := strOf_size f.name
  have HA1 : Hid (Acc w1 (w1.alloc (.cells #[.int .u8 (I : Int), .int .u8 (J : Int)] 5)) (.slice (some ⟨w1.heap.size, 0, none⟩) 2 2) [I, J]) := ⟨OwnB.of_row (two_row w1 I J) rfl (by unfold maxLen; simp), fun j hj => by
    have : w1.heap.size = j := by simpa [Value.ownBlock] using hj
    omega, (Below.refl _ _).alloc (Nat.le_refl _) _⟩
  go_wp2_with (at_builtin; refine wpList_accS _ rfl _ _ rfl (.slice (some ⟨w1.heap.size, 0, none⟩) 2 2) [I, J] rfl HA1.out f.name HF.out.byte rfl (by simp; omega) ?_; intro v2 w2 HA2)
  obtain ⟨wd, hwd⟩ : ∃ wd, wd = w2.drew := ⟨_, rfl⟩
  have HAd : Hid (Acc w1 wd v2 ([I, J] ++ f.name)) := by rw [hwd]; exact HA2.out.later (Below.refl _ _).drew
  have hBd : B < wd.heap.size := Nat.lt_of_lt_of_le hBlt HAd.out.below.size
  have hBo : ¬ v2.ownBlock = some B := fun e => by have := HAd.out.low B e; omega
  have k1 : ∀ u : KeepW wd (fun j => v2.ownBlock = some j), u.v.cell? ⟨B, 1, none⟩ = some (.int .i64 f.size) := fun u => (u.cell hBd hBo).trans ((HAd.out.below.cell (p := ⟨B, 1, none⟩) hBlt).trans c1)
  have HW4 : Hid (Calls Tryz.prog 77 #[.int .u64 (S : Int), .int .i64 4] wd fun e w' => e = .returned (.slice (some ⟨wd.heap.size, 0, none⟩) 4 4) ∧ NewTo wd w' (wideN S 4) 4) := wide_any S 4 wd hS2 (by omega)
  clear HA1 HA2 c0 c1 e1 e2 h1 h2
  refine growK_begin 9 (fun w' => ∃ u : KeepW wd (fun j => v2.ownBlock = some j), w' = u.v) (by kernel_rfl) ?_
  rw [← hwd]
  clear hwd
  refine growK_take (by kernel_rfl) [0, 1, 2, 3, 6, 7] 4 _ _ (by kernel_rfl) _ (keep_class (Fr.refl _ _)) ?_
  simp only [opsAt, List.getElem?_toArray, List.getElem?_cons_succ, List.getElem?_cons_zero]
  repeat (first | go_big_quiet_step (fail) | quiet_step (fail))
  refine wpQuiet_nil ?_
  clear k1
  refine growK_one 4 (by kernel_rfl) (fun K hK => ?_)
  simp only [stepOf, List.getElem?_toArray, List.getElem?_cons_succ, List.getElem?_cons_zero]
  go_simp
  go_at_call 77
  (with_reducible refine HW4.out.mono ?_)
  rintro e w3 ⟨rfl, hn3⟩
  have HA3 := Lib.hid (HAd.out.later hn3.below)
  have HY3 := Lib.hid (hn3.one (wideN_len _ _) (wideN_byte _ _) (by omega))
  have fr3 : Hid (Fr (fun j => v2.ownBlock = some j) wd w3) := Fr.of_below hn3.below
  refine hK.out _ _ (keep_class fr3.out) ?_
  clear hK K hn3 HW4
  refine growK_one 5 (by kernel_rfl) (fun K hK => ?_)
  simp only [stepOf, List.getElem?_toArray, List.getElem?_cons_succ, List.getElem?_cons_zero]
  rw [if_pos (by rfl)]
  refine wp_addB _ (.tmp 16) (.tmp 20) rfl v2 ([I, J] ++ f.name) rfl HA3.out.own (some ⟨wd.heap.size, 0, none⟩) 4 4 (wideN S 4) rfl (wideN_len _ _) HY3.out (by rw [wideN_len]; simp; omega) ?_
  intro v4 w4 o4 g4 e4
  have HA4 := Lib.hid (HA3.out.add o4.out g4.out e4.out)
  have fr4 : Hid (Fr (fun j => v2.ownBlock = some j) wd w4) := fr3.out.trans (Fr.of_grown g4.out fun b e => e)
  have HOW : Hid (∀ j, v4.ownBlock = some j → v2.ownBlock = some j ∨ wd.heap.size ≤ j) := fun j hj => by
    rcases e4.out with h | h
    · exact .inl (by rw [← h]; exact hj)
    · rw [h] at hj
      have := Option.some.inj hj
      have := fr3.out.size
      exact .inr (by omega)
  have HD4 := Lib.hid (HD1.out.below HA4.out.below)
  refine hK.out _ _ (keep_class fr4.out) ?_
  clear hK K o4 g4 e4 HA3 HY3
  refine growK_one 8 (by kernel_rfl) (fun K hK => ?_)
  simp only [stepOf, List.getElem?_toArray, List.getElem?_cons_succ, List.getElem?_cons_zero]
  rw [if_pos (by rfl)]
  refine wp_addB _ (.tmp 21) (.tmp 23) rfl v4 ([I, J] ++ f.name ++ wideN S 4) rfl HA4.out.own (some ⟨B, 2, none⟩) 32 32 f.dg rfl HF.out.dgl HD4.out (by rw [List.length_append, wideN_len, HF.out.dgl]; simp; omega) ?_
  intro v5 w5 o5 g5 e5
  have HA5 := Lib.hid (HA4.out.add o5.out g5.out e5.out)
  have fr5 : Hid (Fr (fun j => v2.ownBlock = some j) wd w5) := fr4.out.over (Fr.of_grown (X := fun j => v4.ownBlock = some j) g5.out fun b e => e) HOW.out
  refine hK.out _ _ (keep_class fr5.out) ?_
  clear hK K o5 g5 e5 HA4 HD4
  refine growK_last (by kernel_rfl) (by kernel_rfl) (fun K hK => ?_)
  simp only [stepOf, List.getElem?_toArray, List.getElem?_cons_succ, List.getElem?_cons_zero]
  go_simp
  refine hK.out _ _ ?_
  have c5 : w5.cell? ⟨B, 34, none⟩ = some (.int .i64 f.first) := (HA5.out.below.cell (p := ⟨B, 34, none⟩) hBlt).trans c34
  have HW5 : Hid (Calls Tryz.prog 77 #[.int .u64 (F : Int), .int .i64 2] w5 fun e w' => e = .returned (.slice (some ⟨w5.heap.size, 0, none⟩) 2 2) ∧ NewTo w5 w' (wideN F 2) 2) := wide_any F 2 w5 hF2 (by omega)
  clear hK K fr5 fr4 fr3 HOW c34
  go_wp2_with fail
  (with_reducible refine HW5.out.mono ?_)
  rintro e w6 ⟨rfl, hn6⟩
  have HA6 := Lib.hid (HA5.out.later hn6.below)
  have HY6 := Lib.hid (hn6.one (wideN_len _ _) (wideN_byte _ _) (by omega))
  clear hn6 HW5 HA5
  go_wp2_with (at_builtin; refine wpList_acc _ rfl _ _ rfl v5 ([I, J] ++ f.name ++ wideN S 4 ++ f.dg) rfl HA6.out (some ⟨w5.heap.size, 0, none⟩) 2 2 (wideN F 2) rfl (wideN_len _ _) HY6.out (by rw [List.length_append, List.length_append, wideN_len, HF.out.dgl, wideN_len]; simp; omega) ?_; intro v7 w7 HA7)
  go_ret
  exact ⟨v7, rfl, by rw [HRES.out]; exact HA7.out.base HB0.out⟩
end Go.Proofs.YtfgaohilpbocbaaGreatDoor
end

section
namespace Go.Proofs.YtfgaohilpbocbaaGreatDoor
open Go.ChangeShapes Go.WideShapes Go.ChangeAt Go.RowKit Go.Joins
set_option linter.unusedVariables false

theorem nat_take {n : Nat} {a b c : List Value} (ha : a.length = n) : ((a.toArray ++ b.toArray ++ c.toArray).toList.take (n + b.length)) = a ++ b := by
  have e : (a.toArray ++ b.toArray ++ c.toArray).toList = (a ++ b) ++ c := by simp
  rw [e, List.take_left' (by rw [List.length_append, ha])]
/-- Bytes appended to a full row, whatever mark it has: a row of one's own. -/
theorem run_appO (w : World) (ty : TypeId) (g n : Nat) (l : List Nat) (ga : Option Addr) (gc : Nat) (m : List Nat) (hg : BytesIn w g 0 l) (hl : l.length = n) (hs : Sl w ga gc m) (h0 : m ≠ []) (hn : n ≤ 100000) (hm : m.length ≤ 100000) :
    ∃ v' w', (Builtin.append_ #[53, 53] ty #[.slice (some ⟨g, 0, none⟩) n n, .slice ga m.length gc]).run Tryz.prog w = .ok v' w' ∧ OwnB w' v' (l ++ m) ∧ v'.ownBlock = some w.heap.size ∧ Below w.heap.size w w' := by
  obtain ⟨i0, hi, hz0, hz1, hz2⟩ := info_parts info8C
  have hrd : ∀ (k : List Nat) (b off : Nat), BytesIn w b off k → ∀ j v, (k.map byteV)[j]? = some v → w.cell? ((⟨b, off, none⟩ : Addr).add j) = some v := fun k b off hb j v hv => by
    rw [List.getElem?_map] at hv
    obtain ⟨x, hx, rfl⟩ := Option.map_eq_some_iff.1 hv
    obtain ⟨hj, rfl⟩ := List.getElem?_eq_some_iff.1 hx
    have := hb j hj
    by_cases j0 : j = 0
    · subst j0; simpa [Addr.add, byteV] using this
    · simpa [Addr.add, j0, byteV] using this
  have hpos : 0 < m.length := List.length_pos_iff.2 h0
  obtain ⟨b, off, rfl, hb⟩ := hs.some hpos
  have hr := run_append_grow (P := Tryz.prog) w 53 ty 5 i0 (.int .u8 0) Tryz.underlying53 hi hz0 ⟨g, 0, none⟩ n n (l.map byteV) (by rw [List.length_map, hl, hz1]; simp) (hrd l g 0 hg) ⟨b, off, none⟩ m.length gc (m.map byteV) (by rw [List.length_map, hz1]; simp) (hrd m b off hb) (by omega) (by omega) (growslice_fits (by omega) (by rw [hz2]; omega))
  have hge := grownCap_ge w (n + m.length) n 5
  have hcm : grownCap w (n + m.length) n 5 ≤ maxLen := grownCap_le_maxLen _ _ _ _ (by unfold maxLen; omega)
  generalize grownCap w (n + m.length) n 5 = cap at hr hge hcm
  refine ⟨_, _, hr, ⟨by simp, .inr ⟨w.heap.size, cap, _, by rw [List.length_append, hl], Nat.zero_le _, heap_alloc_new w.drew _, by rw [List.length_append, hl]; exact hge, hcm, ?_, ?_⟩⟩, rfl, ((Below.refl w.heap.size w).drew).alloc (Nat.le_refl _) _⟩
  · simp [Builtin.zeroCells, Value.cells, hl]
    omega
  · have := nat_take (n := n) (a := l.map byteV) (b := m.map byteV) (c := (Builtin.zeroCells (Value.int .u8 0).cells (cap - (n + m.length))).toList) (by rw [List.length_map, hl])
    rw [List.length_map] at this
    rw [List.length_append, hl, List.map_append, Nat.mul_one]
    simpa using this
theorem wpList_appO {ops : Array Oper} {rest : List Oper} {o : Oper} {a : Act} {Q : Exit → Act → World → Prop} (w : World) (hgd : o.guard = none) (s x : Operand)
    (ho : o.op = .call { callee := .builtin .append, args := #[s, x], argTypes := #[53, 53] })
    (g n : Nat) (l : List Nat) (hsv : a.eval s = .slice (some ⟨g, 0, none⟩) n n) (hg : BytesIn w g 0 l) (hl : l.length = n) (ga : Option Addr) (gc q : Nat) (m : List Nat) (hxv : a.eval x = .slice ga q gc) (hq : m.length = q) (hs : Sl w ga gc m) (h0 : m ≠ []) (hn : n ≤ 100000) (hm : m.length ≤ 100000)
    (h : ∀ v' w', Hid (Acc w w' v' (l ++ m)) → wpList Tryz.prog ops Q rest (a.put o.dst v') w') : wpList Tryz.prog ops Q (o :: rest) a w := by
  subst hq
  refine wpList_plain hgd fun K hK => ?_
  obtain ⟨v', w', hr, h2, h3, h4⟩ := run_appO w o.type g n l ga gc m hg hl hs h0 hn hm
  unfold Oper.wp execOp
  simp only [ho, resolve, invoke, builtin, Sem.run_bind, Sem.run_pure, Result.andThen_ok, List.map_toArray, List.map_cons, List.map_nil, hsv, hxv, hr]
  exact hK _ _ (h v' w' ⟨h2, fun j hj => by rw [h3] at hj; exact Nat.le_of_eq (Option.some.inj hj), h4⟩)

/-- An array stored whole into a block: the world behind it by what is known of it. -/
theorem wpList_store_arr {ops : Array Oper} {rest : List Oper} {o : Oper} {a : Act} {w : World} {Q : Exit → Act → World → Prop} (hgd : o.guard = none) (ty : TypeId) (x y : Operand) (ho : o.op = .store ty x y)
    (g : Nat) (cells : Array Value) (hx : a.eval x = .pointer (some ⟨g, 0, none⟩)) (hy : a.eval y = .agg cells)
    (t : TypeId) (old : Array Value) (hg : w.heap[g]? = some (.cells old t (0, 0))) (hi : (Tryz.prog.info? ty).map (·.size) = some cells.size) (hold : old.size = cells.size) (h1 : cells.all (·.oneCell') = true)
    (h : ∀ w', Hid (w'.heap[g]? = some (.cells cells t (0, 0))) → Hid (Fr (fun k => k = g) w w') → wpList Tryz.prog ops Q rest (a.put o.dst undef) w') : wpList Tryz.prog ops Q (o :: rest) a w :=
  wpList_store_row hgd ty x y ho g cells hx hy t old hg hi hold h1 (h _ (setRow_heap _ _ _ _ _ _ hg) (Fr.setRow (X := fun k => k = g) (Fr.refl _ w) (fun _ => rfl) cells))

/-- A packet's bytes. -/
def kbN (k : Int) (b : List Nat) : List Nat := [u8N k] ++ b
def bytesN (set : List Nat) (k : Int) (b : List Nat) : List Nat := [71, 89, 83, 49] ++ wideN (48 + (kbN k b).length) 4 ++ set ++ dgN (set ++ kbN k b) ++ kbN k b
theorem oneCell_v (l : List Nat) (n : Nat) : (rowArr n (vOf l)).all (·.oneCell') = true := by simp [rowArr, vOf, byteV, Value.oneCell']

end Go.Proofs.YtfgaohilpbocbaaGreatDoor
end

section
namespace Go.Proofs.YtfgaohilpbocbaaGreatDoor
open Go.ChangeShapes Go.WideShapes Go.ChangeAt Go.RowKit Go.Joins
set_option linter.unusedVariables false

/-- What is known of a slice: its length, CRC, digest. -/
structure Sm where
  n : Int
  crc : Nat
  dg : List Nat
instance : Inhabited Sm := ⟨⟨0, 0, []⟩⟩
def SmOk (x : Sm) : Prop := i64R x.n ∧ x.crc < 4294967296 ∧ x.dg.length = 32 ∧ IsByte x.dg
/-- Its 34 cells, from a place on. -/
def SmAt (w : World) (p off : Nat) (x : Sm) : Prop := w.cell? ⟨p, off, none⟩ = some (.int .i64 x.n) ∧ w.cell? ⟨p, off + 1, none⟩ = some (.int .u32 (x.crc : Int)) ∧ BytesIn w p (off + 2) x.dg
theorem SmAt.below {w w' : World} {p off : Nat} {x : Sm} (h : SmAt w p off x) (k : Below w.heap.size w w') : SmAt w' p off x := by
  obtain ⟨h0, h1, h2⟩ := h
  have hp : p < w.heap.size := World.block_lt_of_cell? w _ h0
  exact ⟨(k.cell (p := ⟨p, off, none⟩) hp).trans h0, (k.cell (p := ⟨p, off + 1, none⟩) hp).trans h1, h2.below (Nat.le_refl _) k⟩
/-- The slice '.slice a l.length cap' reads as these. -/
structure Sms (w : World) (a : Option Addr) (cap : Nat) (l : List Sm) : Prop where
  rng : ∀ x ∈ l, SmOk x
  len : l.length ≤ cap
  most : cap ≤ maxLen
  here : l = [] ∨ ∃ b off, a = some ⟨b, off, none⟩ ∧ b < w.heap.size ∧ ∀ i (h : i < l.length), SmAt w b (off + i * 34) l[i]
theorem Sms.below {w w' : World} {a : Option Addr} {cap : Nat} {l : List Sm} (h : Sms w a cap l) (k : Below w.heap.size w w') : Sms w' a cap l :=
  ⟨h.rng, h.len, h.most, by
    rcases h.here with e | ⟨b, off, e, hb, hc⟩
    · exact .inl e
    · exact .inr ⟨b, off, e, Nat.lt_of_lt_of_le hb k.size, fun i hi => (hc i hi).below k⟩⟩
theorem sms_one {w : World} {a : Option Addr} {cap : Nat} {l : List Sm} (h : Sms w a cap l) {i : Nat} (hi : i < l.length) : ∃ b off, a = some ⟨b, off, none⟩ ∧ b < w.heap.size ∧ SmAt w b (off + i * 34) l[i] := by
  rcases h.here with rfl | ⟨b, off, e, hb, hc⟩
  · simp at hi
  · exact ⟨b, off, e, hb, hc i hi⟩
theorem Sms.lt {w : World} {a : Option Addr} {cap : Nat} {l : List Sm} (h : Sms w a cap l) : l.length ≤ 9223372036854775807 := by
  have h1 := h.len; have h2 := h.most; unfold maxLen at h2; omega
/-- The body of a packet of sums. -/
def sumN (x : Sm) : List Nat := wideN (u64N x.n) 2 ++ wideN x.crc 4 ++ x.dg
def sumsN (i : Int) (l : List Sm) : List Nat := [u8N i] ++ wideN l.length 2 ++ (l.map sumN).flatten
theorem sumN_len {x : Sm} (h : SmOk x) : (sumN x).length = 38 := by unfold sumN; rw [List.length_append, List.length_append, wideN_len, wideN_len, h.2.2.1]
theorem sums_next {l : List Sm} {k : Nat} (h : k < l.length) : ((l.take (k + 1)).map sumN).flatten = ((l.take k).map sumN).flatten ++ sumN l[k] := by
  rw [List.take_succ_eq_append_getElem h, List.map_append, List.flatten_append]
  simp
theorem sums_len {l : List Sm} (h : ∀ x ∈ l, SmOk x) : ((l.map sumN).flatten).length = 38 * l.length := by
  induction l with
  | nil => rfl
  | cons x l ih =>
    rw [List.map_cons, List.flatten_cons, List.length_append, sumN_len (h x (by simp)), ih fun y hy => h y (by simp [hy]), List.length_cons]
    omega

set_option maxRecDepth 1000000 in
set_option maxHeartbeats 4000000 in
theorem refSums_any (i : Int) (a : Option Addr) (cap : Nat) (l : List Sm) (w : World) (hi : i64R i) (hs : Sms w a cap l) (hl : l.length ≤ 1000) :
    Calls Tryz.prog 91 #[.int .i64 i, .slice a l.length cap] w fun e w' => ∃ v, e = .returned v ∧ Acc w w' v (sumsN i l) := by
  have mixed : Tryz.prog.follows .mixedOrders = true := by kernel_rfl
  have HS := Lib.hid hs
  have hlm := hs.lt
  have hl1 := hs.len
  have hcm : cap ≤ 9223372036854775807 := by have := hs.most; unfold maxLen at this; omega
  have e1 := u8_wrap i
  have h1 := u8N_lt i
  obtain ⟨I, hI⟩ : ∃ I, I = u8N i := ⟨_, rfl⟩
  have HRES : Hid (sumsN i l = [I] ++ wideN l.length 2 ++ (l.map sumN).flatten) := by unfold sumsN; rw [hI]; rfl
  rw [← hI] at e1 h1
  have HA1 : Hid (Acc w (w.alloc (.cells #[.int .u8 (I : Int)] 5)) (.slice (some ⟨w.heap.size, 0, none⟩) 1 1) [I]) := ⟨OwnB.of_row (row_of_cells w [I] _ rfl) rfl (by unfold maxLen; simp), fun j hj => by
    have : w.heap.size = j := by simpa [Value.ownBlock] using hj
    omega, (Below.refl _ _).alloc (Nat.le_refl _) _⟩
  have HW1 : Hid (∀ w, Calls Tryz.prog 77 #[.int .u64 (l.length : Int), .int .i64 2] w fun e w' => e = .returned (.slice (some ⟨w.heap.size, 0, none⟩) 2 2) ∧ NewTo w w' (wideN l.length 2) 2) := fun w => wide_any l.length 2 w (by omega) (by omega)
  clear hI hi hs
  go_enter Tryz.func91, Tryz.ntmps91
  go_wp2_with fail
  (with_reducible refine (HW1.out _).mono ?_)
  rintro e w2 ⟨rfl, hn2⟩
  have HA2 := Lib.hid (HA1.out.later hn2.below)
  have HY2 := Lib.hid (hn2.one (wideN_len _ _) (wideN_byte _ _) (by omega))
  obtain ⟨g2, hg2⟩ : ∃ g2, g2 = (w.alloc (.cells #[.int .u8 (I : Int)] 5)).heap.size := ⟨_, rfl⟩
  rw [← hg2] at HY2 ⊢
  clear hn2 HA1 HW1 hg2
  go_upto_region 3 with (at_builtin; refine wpList_acc _ rfl _ _ rfl (.slice (some ⟨w.heap.size, 0, none⟩) 1 1) [I] rfl HA2.out (some ⟨g2, 0, none⟩) 2 2 (wideN l.length 2) rfl (wideN_len _ _) HY2.out (by rw [wideN_len]; simp) ?_; intro v3 w3 HA3)
  clear HA2 HY2 e1
  have HA0 : Hid (Acc w w3 v3 ([I] ++ wideN l.length 2 ++ ((l.take 0).map sumN).flatten)) := by
    have h := HA3.out
    show Acc _ _ _ _
    simpa using h
  clear HA3
  go_loopw [5, 17] (fun s5 j wr => ∃ k : Nat, k ≤ l.length ∧ j = .int .i64 (k : Int) ∧ Hid (Acc w wr s5 ([I] ++ wideN l.length 2 ++ ((l.take k).map sumN).flatten))) (fun _ j _ => l.length - (intOf j).toNat)
  case atStart => exact ⟨0, by omega, rfl, HA0⟩
  case round =>
    obtain ⟨k, hk, rfl, HA⟩ := hrel
    clear HA0
    by_cases hlt : k < l.length
    · obtain ⟨b, off, rfl, hb, hx0, hx1, hx2⟩ := sms_one (HS.out.below HA.out.below) hlt
      obtain ⟨q1, q2, q3, q4⟩ := HS.out.rng _ (List.getElem_mem hlt)
      have hkz : (k : Int) < (l.length : Int) := by omega
      have HNX := Lib.hid (sums_next hlt)
      have HLN : Hid (((l.take k).map sumN).flatten.length ≤ 38000) := by
        have h := sums_len (l := l.take k) fun x hx => HS.out.rng x (List.mem_of_mem_take hx)
        rw [List.length_take, Nat.min_eq_left hk] at h
        show _ ≤ _
        omega
      obtain ⟨P, hP⟩ : ∃ P, P = [I] ++ wideN l.length 2 ++ ((l.take k).map sumN).flatten := ⟨_, rfl⟩
      have hPl : P.length ≤ 38003 := by
        rw [hP, List.length_append, List.length_append, wideN_len]
        have := HLN.out
        simp only [List.length_singleton]
        omega
      have HPE : Hid ([I] ++ wideN l.length 2 ++ ((l.take (k + 1)).map sumN).flatten = P ++ sumN l[k]) := by
        show _ = _
        rw [HNX.out, hP]
        simp [List.append_assoc]
      rw [← hP] at HA
      clear hP HNX HLN
      obtain ⟨x, hx⟩ : ∃ x, x = l[k] := ⟨_, rfl⟩
      rw [← hx] at hx0 hx1 hx2 q1 q2 q3 q4 HPE
      clear hx
      obtain ⟨n, crc, dg⟩ := x
      simp only at hx0 hx1 hx2 q1 q2 q3 q4
      have hn1 := q1.1
      have hn2 := q1.2
      have e3 := u64_wrap n
      obtain ⟨S, hS⟩ : ∃ S, S = u64N n := ⟨_, rfl⟩
      have hS2 : S < 18446744073709551616 := by rw [hS]; exact u64N_lt _
      rw [← hS] at e3
      have HSU : Hid (sumN ⟨n, crc, dg⟩ = wideN S 2 ++ wideN crc 4 ++ dg) := by unfold sumN; rw [hS]; rfl
      clear hS
      obtain ⟨wd, hwd⟩ : ∃ wd, wd = wr.drew := ⟨_, rfl⟩
      have HAd : Hid (Acc w wd u5 P) := by rw [hwd]; exact HA.out.later (Below.refl _ _).drew
      have hb0 : b < w.heap.size := by
        obtain ⟨b', off', e, hb', _⟩ := sms_one HS.out hlt
        cases e
        exact hb'
      have hbd : b < wd.heap.size := Nat.lt_of_lt_of_le hb0 HAd.out.below.size
      have hbo : ¬ u5.ownBlock = some b := fun e => by have := HAd.out.low b e; omega
      have d0 : wd.cell? ⟨b, off + k * 34, none⟩ = some (.int .i64 n) := by rw [hwd]; exact hx0
      have d1 : wd.cell? ⟨b, off + k * 34 + 1, none⟩ = some (.int .u32 (crc : Int)) := by rw [hwd]; exact hx1
      have k0 : ∀ u : KeepW wd (fun j => u5.ownBlock = some j), u.v.cell? ⟨b, off + k * 34, none⟩ = some (.int .i64 n) := fun u => (u.cell hbd hbo).trans d0
      have k1 : ∀ u : KeepW wd (fun j => u5.ownBlock = some j), u.v.cell? ⟨b, off + k * 34 + 1, none⟩ = some (.int .u32 (crc : Int)) := fun u => (u.cell hbd hbo).trans d1
      have HDD : Hid (Sl wd (some ⟨b, off + k * 34 + 2, none⟩) 32 dg) := ⟨q4, by rw [q3]; exact Nat.le_refl _, by unfold maxLen; omega, fun e => (by cases e), .inr ⟨b, _, rfl, by rw [hwd]; exact hx2⟩⟩
      have HW4 : Hid (Calls Tryz.prog 77 #[.int .u64 (S : Int), .int .i64 2] wd fun e w' => e = .returned (.slice (some ⟨wd.heap.size, 0, none⟩) 2 2) ∧ NewTo wd w' (wideN S 2) 2) := wide_any S 2 wd hS2 (by omega)
      have HW5 : Hid (∀ w, Calls Tryz.prog 77 #[.int .u64 (crc : Int), .int .i64 4] w fun e w' => e = .returned (.slice (some ⟨w.heap.size, 0, none⟩) 4 4) ∧ NewTo w w' (wideN crc 4) 4) := fun w => wide_any crc 4 w (by omega) (by omega)
      have Q3 := Lib.hid q3
      clear d0 d1 HA hx0 hx1 hx2 q1 q4 q3
      go_upto_region 5 with fail
      refine growK_begin 23 (fun w' => ∃ u : KeepW wd (fun j => u5.ownBlock = some j), w' = u.v) (by kernel_rfl) ?_
      rw [← hwd]
      clear hwd
      refine growK_take (by kernel_rfl) [0, 1, 2, 3, 4, 5, 6, 9, 10, 11, 12, 13, 14, 17, 18, 19, 20, 21] 6 _ _ (by kernel_rfl) _ (keep_class (Fr.refl _ _)) ?_
      simp only [opsAt, List.getElem?_toArray, List.getElem?_cons_succ, List.getElem?_cons_zero]
      repeat (first | go_big_quiet_step (fail) | quiet_step (fail))
      refine wpQuiet_nil ?_
      clear k0 k1 e3
      refine growK_one 7 (by kernel_rfl) (fun K hK => ?_)
      simp only [stepOf, List.getElem?_toArray, List.getElem?_cons_succ, List.getElem?_cons_zero]
      go_simp
      go_at_call 77
      (with_reducible refine HW4.out.mono ?_)
      rintro e w4 ⟨rfl, hn4⟩
      have HA4 := Lib.hid (HAd.out.later hn4.below)
      have HY4 := Lib.hid (hn4.one (wideN_len _ _) (wideN_byte _ _) (by omega))
      have fr4 : Hid (Fr (fun j => u5.ownBlock = some j) wd w4) := Fr.of_below hn4.below
      refine hK.out _ _ (keep_class fr4.out) ?_
      clear hK K hn4 HW4
      refine growK_one 8 (by kernel_rfl) (fun K hK => ?_)
      simp only [stepOf, List.getElem?_toArray, List.getElem?_cons_succ, List.getElem?_cons_zero]
      rw [if_pos (by rfl)]
      refine wp_addB _ (.tmp 20) (.tmp 27) rfl u5 P rfl HA4.out.own (some ⟨wd.heap.size, 0, none⟩) 2 2 (wideN S 2) rfl (wideN_len _ _) HY4.out (by rw [wideN_len]; omega) ?_
      intro v5 w5 o5 g5 e5
      have HA5 := Lib.hid (HA4.out.add o5.out g5.out e5.out)
      have fr5 : Hid (Fr (fun j => u5.ownBlock = some j) wd w5) := fr4.out.trans (Fr.of_grown g5.out fun b e => e)
      have HO5 : Hid (∀ j, v5.ownBlock = some j → u5.ownBlock = some j ∨ wd.heap.size ≤ j) := fun j hj => by
        rcases e5.out with h | h
        · exact .inl (by rw [← h]; exact hj)
        · rw [h] at hj
          have := Option.some.inj hj
          have := fr4.out.size
          exact .inr (by omega)
      refine hK.out _ _ (keep_class fr5.out) ?_
      clear hK K o5 g5 e5 HA4 HY4 fr4
      refine growK_one 15 (by kernel_rfl) (fun K hK => ?_)
      simp only [stepOf, List.getElem?_toArray, List.getElem?_cons_succ, List.getElem?_cons_zero]
      go_simp
      go_at_call 77
      (with_reducible refine (HW5.out w5).mono ?_)
      rintro e w6 ⟨rfl, hn6⟩
      have HA6 := Lib.hid (HA5.out.later hn6.below)
      have HY6 := Lib.hid (hn6.one (wideN_len _ _) (wideN_byte _ _) (by omega))
      have fr6 : Hid (Fr (fun j => u5.ownBlock = some j) wd w6) := fr5.out.later hn6.below
      refine hK.out _ _ (keep_class fr6.out) ?_
      clear hK K hn6 HW5 HA5 fr5
      refine growK_one 16 (by kernel_rfl) (fun K hK => ?_)
      simp only [stepOf, List.getElem?_toArray, List.getElem?_cons_succ, List.getElem?_cons_zero]
      rw [if_pos (by rfl)]
      refine wp_addB _ (.tmp 28) (.tmp 35) rfl v5 (P ++ wideN S 2) rfl HA6.out.own (some ⟨w5.heap.size, 0, none⟩) 4 4 (wideN crc 4) rfl (wideN_len _ _) HY6.out (by rw [List.length_append, wideN_len, wideN_len]; omega) ?_
      intro v7 w7 o7 g7 e7
      have HA7 := Lib.hid (HA6.out.add o7.out g7.out e7.out)
      have fr7 : Hid (Fr (fun j => u5.ownBlock = some j) wd w7) := fr6.out.over (Fr.of_grown (X := fun j => v5.ownBlock = some j) g7.out fun b e => e) HO5.out
      have HO7 : Hid (∀ j, v7.ownBlock = some j → u5.ownBlock = some j ∨ wd.heap.size ≤ j) := fun j hj => by
        rcases e7.out with h | h
        · exact HO5.out j (by rw [← h]; exact hj)
        · rw [h] at hj
          have := Option.some.inj hj
          have := fr6.out.size
          exact .inr (by omega)
      have HB7 : Hid (Sl w7 (some ⟨b, off + k * 34 + 2, none⟩) 32 dg) := HDD.out.of_block fun p hp hl => by
        cases hp
        exact fr7.out.block b hbd hbo
      refine hK.out _ _ (keep_class fr7.out) ?_
      clear hK K o7 g7 e7 HA6 HY6 fr6 HO5 HDD
      refine growK_one 22 (by kernel_rfl) (fun K hK => ?_)
      simp only [stepOf, List.getElem?_toArray, List.getElem?_cons_succ, List.getElem?_cons_zero]
      rw [if_pos (by rfl)]
      refine wp_addB _ (.tmp 36) (.tmp 41) rfl v7 (P ++ wideN S 2 ++ wideN crc 4) rfl HA7.out.own (some ⟨b, off + k * 34 + 2, none⟩) 32 32 dg rfl Q3.out HB7.out (by rw [List.length_append, List.length_append, wideN_len, wideN_len, Q3.out]; omega) ?_
      intro v8 w8 o8 g8 e8
      have HA8 := Lib.hid (HA7.out.add o8.out g8.out e8.out)
      have fr8 : Hid (Fr (fun j => u5.ownBlock = some j) wd w8) := fr7.out.over (Fr.of_grown (X := fun j => v7.ownBlock = some j) g8.out fun b e => e) HO7.out
      refine hK.out _ _ (keep_class fr8.out) ?_
      clear hK K o8 g8 e8 HA7 HB7 fr7 HO7
      refine growK_last (by kernel_rfl) (by kernel_rfl) (fun K hK => ?_)
      simp only [stepOf, List.getElem?_toArray, List.getElem?_cons_succ, List.getElem?_cons_zero]
      go_simp
      refine hK.out _ _ ?_
      have HAN : Hid (Acc w w8 v8 ([I] ++ wideN l.length 2 ++ ((l.take (k + 1)).map sumN).flatten)) := by
        show Acc _ _ _ _
        rw [HPE.out, HSU.out]
        have h := HA8.out
        simpa [List.append_assoc] using h
      clear hK K fr8 HA8 HPE HSU
      go_wp2_with fail
      go_roundw
      case rel => exact ⟨k + 1, by omega, by go_num, HAN⟩
      case measure => simp [intOf]; omega
    · obtain rfl : k = l.length := by omega
      rw [List.take_length, ← HRES.out] at HA
      go_wp2_with fail
      go_ret
      exact ⟨_, rfl, HA.out⟩
end Go.Proofs.YtfgaohilpbocbaaGreatDoor
end

section
namespace Go.Proofs.YtfgaohilpbocbaaGreatDoor
set_option linter.unusedVariables false

/-- A packet. -/
structure Pk where
  set : List Nat
  kind : Int
  slice : Int
  files : Int
  slices : Int
  index : Int
  file : Fil
  sums : List Sm
  id : Nat
  data : List Nat
def zFil : Fil := ⟨[], 0, List.replicate 32 0, 0⟩
/-- What any packet is that came in. -/
structure PkIn (p : Pk) : Prop where
  set8 : p.set.length = 8
  setb : IsByte p.set
  kind : i64R p.kind
  slice : i64R p.slice
  files : i64R p.files
  slices : i64R p.slices
  index : i64R p.index
  file : FilOk p.file
  sums : ∀ x ∈ p.sums, SmOk x
  id : p.id < 4294967296
  data : IsByte p.data
def zNone (p : Pk) : Prop := p.slice = 0 ∧ p.files = 0 ∧ p.slices = 0
def zSym (p : Pk) : Prop := p.id = 0 ∧ p.data = []
/-- A packet that is formed. -/
def ok1 (p : Pk) : Prop := p.kind = 1 ∧ (0 ≤ p.slice ∧ p.slice < 65536) ∧ (0 ≤ p.files ∧ p.files < 256) ∧ (0 ≤ p.slices ∧ p.slices < 65536) ∧ p.index = 0 ∧ p.file = zFil ∧ p.sums = [] ∧ zSym p
def ok2 (p : Pk) : Prop := p.kind = 2 ∧ zNone p ∧ (0 ≤ p.index ∧ p.index < 256) ∧ p.file.name.length < 256 ∧ (0 ≤ p.file.size ∧ p.file.size < 4294967296) ∧ (0 ≤ p.file.first ∧ p.file.first < 65536) ∧ p.sums = [] ∧ zSym p
def ok3 (p : Pk) : Prop := p.kind = 3 ∧ zNone p ∧ p.file = zFil ∧ zSym p ∧ (0 ≤ p.index ∧ p.index < 256) ∧ p.sums.length < 65536 ∧ ∀ x ∈ p.sums, 0 ≤ x.n ∧ x.n < 65536
def ok4 (p : Pk) : Prop := p.kind = 4 ∧ zNone p ∧ p.file = zFil ∧ p.index = 0 ∧ p.sums = [] ∧ 1 ≤ p.data.length ∧ p.data.length ≤ 256
def pkOk (p : Pk) : Prop := ok1 p ∨ ok2 p ∨ ok3 p ∨ ok4 p
def pkBody (p : Pk) : List Nat := if p.kind = 1 then mainN p.slice p.files p.slices else if p.kind = 2 then fileN p.index p.file else if p.kind = 3 then sumsN p.index p.sums else symbolN p.id p.data
def pkBytes (p : Pk) : List Nat := bytesN p.set p.kind (pkBody p)

theorem wide_inj {n v v' : Nat} (h : wideN v n = wideN v' n) (h1 : v < 256 ^ n) (h2 : v' < 256 ^ n) : v = v' := by
  have := congrArg numN h
  rwa [numN_wide n v h1, numN_wide n v' h2] at this
theorem u64N_of {z : Int} (h : 0 ≤ z) (h2 : z < 4294967296) : (u64N z : Int) = z := by unfold u64N; omega
theorem u8N_of {z : Int} (h : 0 ≤ z) (h2 : z < 256) : (u8N z : Int) = z := by unfold u8N; omega
theorem kind_of {p : Pk} (h : pkOk p) : p.kind = 1 ∨ p.kind = 2 ∨ p.kind = 3 ∨ p.kind = 4 := by
  rcases h with h | h | h | h
  · exact .inl h.1
  · exact .inr (.inl h.1)
  · exact .inr (.inr (.inl h.1))
  · exact .inr (.inr (.inr h.1))
theorem body_len {p : Pk} (hi : PkIn p) (h : pkOk p) : (pkBody p).length ≤ 2600000 := by
  unfold pkBody
  rcases h with h | h | h | h
  · rw [if_pos h.1]
    unfold mainN
    rw [List.length_append, List.length_append, wideN_len, wideN_len]
    simp
  · rw [if_neg (by rw [h.1]; decide), if_pos h.1]
    unfold fileN
    have := h.2.2.2.1
    simp only [List.length_append, wideN_len, hi.file.dgl, List.length_cons, List.length_nil]
    omega
  · rw [if_neg (by rw [h.1]; decide), if_neg (by rw [h.1]; decide), if_pos h.1]
    unfold sumsN
    have := h.2.2.2.2.2.1
    rw [List.length_append, List.length_append, wideN_len, sums_len hi.sums]
    simp
    omega
  · rw [if_neg (by rw [h.1]; decide), if_neg (by rw [h.1]; decide), if_neg (by rw [h.1]; decide)]
    unfold symbolN
    have := h.2.2.2.2.2.2
    rw [List.length_append, wideN_len]
    omega
theorem kb_len (k : Int) (b : List Nat) : (kbN k b).length = 1 + b.length := by unfold kbN; simp [Nat.add_comm]
theorem bytes_len {set : List Nat} (h : set.length = 8) (k : Int) (b : List Nat) : (bytesN set k b).length = 49 + b.length := by
  unfold bytesN
  simp only [List.length_append, wideN_len, dgN_len, h, kb_len, List.length_cons, List.length_nil]
  omega
theorem bytes_inj {set set' : List Nat} {k k' : Int} {b b' r r' : List Nat} (h8 : set.length = 8) (h8' : set'.length = 8) (hb : b.length ≤ 2600000) (hb' : b'.length ≤ 2600000) (h : bytesN set k b ++ r = bytesN set' k' b' ++ r') : set = set' ∧ u8N k = u8N k' ∧ b = b' ∧ r = r' := by
  unfold bytesN at h
  simp only [List.append_assoc] at h
  obtain ⟨_, h⟩ := List.append_inj h rfl
  obtain ⟨e1, h⟩ := List.append_inj h (by rw [wideN_len, wideN_len])
  have e1 := wide_inj e1 (by rw [kb_len]; omega) (by rw [kb_len]; omega)
  obtain ⟨e2, h⟩ := List.append_inj h (by rw [h8, h8'])
  obtain ⟨_, h⟩ := List.append_inj h (by rw [dgN_len, dgN_len])
  obtain ⟨e3, h⟩ := List.append_inj h (by omega)
  unfold kbN at e3
  simp only [List.singleton_append, List.cons.injEq] at e3
  exact ⟨e2, e3.1, e3.2, h⟩
theorem sm_inj {x y : Sm} (hx : SmOk x) (hy : SmOk y) (h1 : 0 ≤ x.n ∧ x.n < 65536) (h2 : 0 ≤ y.n ∧ y.n < 65536) (h : sumN x = sumN y) : x = y := by
  unfold sumN at h
  rw [List.append_assoc, List.append_assoc] at h
  obtain ⟨e1, h⟩ := List.append_inj h (by rw [wideN_len, wideN_len])
  obtain ⟨e2, e3⟩ := List.append_inj h (by rw [wideN_len, wideN_len])
  have a1 := u64N_of h1.1 (by omega)
  have a2 := u64N_of h2.1 (by omega)
  have e1 := wide_inj e1 (by omega) (by omega)
  have e2 := wide_inj e2 (by have := hx.2.1; omega) (by have := hy.2.1; omega)
  cases x
  cases y
  simp only at e1 e2 e3 a1 a2
  subst e2 e3
  congr 1
  omega
theorem sms_inj : ∀ {l m : List Sm}, l.length = m.length → (∀ x ∈ l, SmOk x ∧ 0 ≤ x.n ∧ x.n < 65536) → (∀ x ∈ m, SmOk x ∧ 0 ≤ x.n ∧ x.n < 65536) → (l.map sumN).flatten = (m.map sumN).flatten → l = m
  | [], [], _, _, _, _ => rfl
  | [], y :: m, h, _, _, _ => by simp at h
  | x :: l, [], h, _, _, _ => by simp at h
  | x :: l, y :: m, h, hl, hm, e => by
    rw [List.map_cons, List.map_cons, List.flatten_cons, List.flatten_cons] at e
    have hx := hl x (by simp)
    have hy := hm y (by simp)
    obtain ⟨e1, e2⟩ := List.append_inj e (by rw [sumN_len hx.1, sumN_len hy.1])
    rw [sm_inj hx.1 hy.1 hx.2 hy.2 e1, sms_inj (by simpa using h) (fun z hz => hl z (by simp [hz])) (fun z hz => hm z (by simp [hz])) e2]
/-- The bytes of a formed packet tell it, whatever is behind. -/
theorem pk_unique {p q : Pk} (ip : PkIn p) (iq : PkIn q) (op : pkOk p) (oq : pkOk q) {r r' : List Nat} (h : pkBytes p ++ r = pkBytes q ++ r') : p = q ∧ r = r' := by
  unfold pkBytes at h
  obtain ⟨e1, e2, e3, e4⟩ := bytes_inj ip.set8 iq.set8 (body_len ip op) (body_len iq oq) h
  have kp := kind_of op
  have kq := kind_of oq
  have ek : p.kind = q.kind := by
    have a1 := u8N_of (z := p.kind) (by omega) (by omega)
    have a2 := u8N_of (z := q.kind) (by omega) (by omega)
    omega
  refine ⟨?_, e4⟩
  clear h e4 e2
  obtain ⟨s1, k1, a1, b1, c1, i1, f1, m1, d1, t1⟩ := p
  obtain ⟨s2, k2, a2, b2, c2, i2, f2, m2, d2, t2⟩ := q
  simp only at e1 ek
  subst e1 ek
  rcases op with o | o | o | o <;> rcases oq with o' | o' | o' | o' <;> have ko := o.1 <;> have ko' := o'.1 <;> simp only at ko ko' <;> first | (exfalso; omega) | skip
  all_goals
    subst ko
    simp only [pkBody] at e3
  · obtain ⟨_, x1, x2, x3, x4, x5, x6, x7, x8⟩ := o
    obtain ⟨_, y1, y2, y3, y4, y5, y6, y7, y8⟩ := o'
    simp only at x1 x2 x3 x4 x5 x6 x7 x8 y1 y2 y3 y4 y5 y6 y7 y8
    simp only [if_true, mainN, List.append_assoc] at e3
    obtain ⟨z1, e3⟩ := List.append_inj e3 (by rw [wideN_len, wideN_len])
    simp only [List.singleton_append, List.cons.injEq] at e3
    obtain ⟨z2, z3⟩ := e3
    have w1 := u64N_of x1.1 (by omega); have w2 := u64N_of y1.1 (by omega)
    have w3 := u64N_of x3.1 (by omega); have w4 := u64N_of y3.1 (by omega)
    have w5 := u8N_of x2.1 x2.2; have w6 := u8N_of y2.1 y2.2
    have z1 := wide_inj z1 (by omega) (by omega)
    have z3 := wide_inj z3 (by omega) (by omega)
    subst x4 x5 x6 x7 x8 y4 y5 y6 y7 y8
    congr 1 <;> omega
  · obtain ⟨_, ⟨x1, x2, x3⟩, x4, x5, x6, x7, x8, x9, xa⟩ := o
    obtain ⟨_, ⟨y1, y2, y3⟩, y4, y5, y6, y7, y8, y9, ya⟩ := o'
    have jp := ip.file
    have jq := iq.file
    simp only at x1 x2 x3 x4 x5 x6 x7 x8 x9 xa y1 y2 y3 y4 y5 y6 y7 y8 y9 ya jp jq
    simp only [show ¬ ((2 : Int) = 1) by decide, if_true, if_false, fileN, List.append_assoc] at e3
    obtain ⟨z1, e3⟩ := List.append_inj e3 (by simp)
    simp only [List.cons.injEq, and_true] at z1
    obtain ⟨z1, z2⟩ := z1
    have w1 := u8N_of x4.1 x4.2; have w2 := u8N_of y4.1 y4.2
    have w3 := u8N_of (z := (f1.name.length : Int)) (by omega) (by omega); have w4 := u8N_of (z := (f2.name.length : Int)) (by omega) (by omega)
    obtain ⟨z3, e3⟩ := List.append_inj e3 (by omega)
    obtain ⟨z4, e3⟩ := List.append_inj e3 (by rw [wideN_len, wideN_len])
    obtain ⟨z5, z6⟩ := List.append_inj e3 (by rw [jp.dgl, jq.dgl])
    have w5 := u64N_of x6.1 x6.2; have w6 := u64N_of y6.1 y6.2
    have w7 := u64N_of x7.1 (by omega); have w8 := u64N_of y7.1 (by omega)
    have z4 := wide_inj z4 (by omega) (by omega)
    have z6 := wide_inj z6 (by omega) (by omega)
    subst x1 x2 x3 x8 x9 xa y1 y2 y3 y8 y9 ya
    obtain ⟨n1, u1, g1, v1⟩ := f1
    obtain ⟨n2, u2, g2, v2⟩ := f2
    simp only at z3 z5 w5 w6 w7 w8 z4 z6
    subst z3 z5
    have q1 : i1 = i2 := by omega
    have q2 : u1 = u2 := by omega
    have q3 : v1 = v2 := by omega
    subst q1 q2 q3
    rfl
  · obtain ⟨_, ⟨x1, x2, x3⟩, x4, ⟨x5, x6⟩, x7, x8, x9⟩ := o
    obtain ⟨_, ⟨y1, y2, y3⟩, y4, ⟨y5, y6⟩, y7, y8, y9⟩ := o'
    have jp := ip.sums
    have jq := iq.sums
    simp only at x1 x2 x3 x4 x5 x6 x7 x8 x9 y1 y2 y3 y4 y5 y6 y7 y8 y9 jp jq
    simp only [show ¬ ((3 : Int) = 1) by decide, show ¬ ((3 : Int) = 2) by decide, if_true, if_false, sumsN, List.append_assoc] at e3
    obtain ⟨z1, e3⟩ := List.append_inj e3 (by simp)
    simp only [List.cons.injEq, and_true] at z1
    obtain ⟨z2, z3⟩ := List.append_inj e3 (by rw [wideN_len, wideN_len])
    have w1 := u8N_of x7.1 x7.2; have w2 := u8N_of y7.1 y7.2
    have z2 := wide_inj z2 (by omega) (by omega)
    have z4 := sms_inj z2 (fun x hx => ⟨jp x hx, x9 x hx⟩) (fun x hx => ⟨jq x hx, y9 x hx⟩) z3
    subst x1 x2 x3 x4 x5 x6 y1 y2 y3 y4 y5 y6 z4
    have q1 : i1 = i2 := by omega
    subst q1
    rfl
  · obtain ⟨_, ⟨x1, x2, x3⟩, x4, x5, x6, x7, x8⟩ := o
    obtain ⟨_, ⟨y1, y2, y3⟩, y4, y5, y6, y7, y8⟩ := o'
    have jp := ip.id
    have jq := iq.id
    simp only at x1 x2 x3 x4 x5 x6 x7 x8 y1 y2 y3 y4 y5 y6 y7 y8 jp jq
    simp only [show ¬ ((4 : Int) = 1) by decide, show ¬ ((4 : Int) = 2) by decide, show ¬ ((4 : Int) = 3) by decide, if_false, symbolN] at e3
    obtain ⟨z1, z2⟩ := List.append_inj e3 (by rw [wideN_len, wideN_len])
    have z1 := wide_inj z1 (by omega) (by omega)
    subst x1 x2 x3 x4 x5 x6 y1 y2 y3 y4 y5 y6 z1 z2
    rfl
/-- What begins bytes. -/
def Begins (l : List Nat) (p : Pk) (n : Nat) : Prop := PkIn p ∧ pkOk p ∧ n = (pkBytes p).length ∧ ∃ r, l = pkBytes p ++ r
theorem begins_one {l : List Nat} {p q : Pk} {n m : Nat} (h : Begins l p n) (k : Begins l q m) : p = q ∧ n = m := by
  obtain ⟨h1, h2, h3, r, h4⟩ := h
  obtain ⟨k1, k2, k3, r', k4⟩ := k
  obtain ⟨e, _⟩ := pk_unique h1 k1 h2 k2 (h4.symm.trans k4)
  subst e
  exact ⟨rfl, by rw [h3, k3]⟩
theorem begins_le {l : List Nat} {p : Pk} {n : Nat} (h : Begins l p n) : n ≤ l.length ∧ 50 ≤ n ∧ l.take n = pkBytes p := by
  obtain ⟨h1, h2, h3, r, h4⟩ := h
  have hn : 50 ≤ (pkBytes p).length := by
    unfold pkBytes
    rw [bytes_len h1.set8]
    have : 1 ≤ (pkBody p).length := by
      unfold pkBody
      split
      · unfold mainN; simp [wideN_len]
      · split
        · unfold fileN; simp
        · split
          · unfold sumsN; simp
          · unfold symbolN; simp [wideN_len]; omega
    omega
  refine ⟨by rw [h3, h4, List.length_append]; omega, by omega, ?_⟩
  rw [h3, h4, List.take_left']
  rfl
theorem begins_self {p : Pk} (h1 : PkIn p) (h2 : pkOk p) (r : List Nat) : Begins (pkBytes p ++ r) p (pkBytes p).length := ⟨h1, h2, rfl, r, rfl⟩
end Go.Proofs.YtfgaohilpbocbaaGreatDoor
end

section
namespace Go.Proofs.YtfgaohilpbocbaaGreatDoor
open Go.ChangeShapes Go.WideShapes Go.ChangeAt Go.RowKit Go.Joins
set_option linter.unusedVariables false

/-! A part of a block, as one value. -/

def isAggD : TypeDesc → Bool
  | .struct _ => true
  | .array _ _ => true
  | _ => false
set_option maxRecDepth 100000 in
theorem run_loadVar_arr {P : Program} (w : World) (g off n N : Nat) (F : Nat → Value) (t ty : TypeId) (fr : Nat × Nat) (d : TypeDesc) (hg : w.heap[g]? = some (.cells (rowArr N F) t fr)) (hn : off + n ≤ N)
    (hu : P.underlying ty = some d) (hd : isAggD d = true) (hi : (P.info? ty).map (·.size) = some n) :
    (loadVar ty ⟨g, off, none⟩).run P w = .ok (.agg (rowArr n fun j => F (off + j))) w := by
  have hlen : (rowArr n fun j => F (off + j)).toList.length = n := by simp [rowArr]
  have hl : (loadCells ⟨g, off, none⟩ (rowArr n fun j => F (off + j)).toList.length).run P w = .ok (rowArr n fun j => F (off + j)).toList.toArray w :=
    run_loadCells_list (P := P) w ⟨g, off, none⟩ (rowArr n fun j => F (off + j)).toList (fun j v hv => by
      have hadd : (⟨g, off, none⟩ : Addr).add j = ⟨g, off + j, none⟩ := by unfold Addr.add; split <;> simp_all
      have hj : j < n := by
        have := (List.getElem?_eq_some_iff.1 hv).1
        omega
      rw [hadd, cell_of_row w g (off + j) _ t fr hg]
      simp only [rowArr] at hv ⊢
      simp [hj] at hv
      simp [show off + j < N by omega, hv])
  rw [hlen] at hl
  cases hq : P.info? ty with
  | none => simp [hq] at hi
  | some i =>
    have hs : i.size = n := by simpa [hq] using hi
    have hagg : (isAgg ty).run P w = .ok true w := by
      unfold isAgg
      rw [Sem.run_bind, run_underlying hu w]
      cases d <;> simp_all [isAggD]
    simp only [Array.toArray_toList] at hl
    simp [loadVar, Sem.run_bind, hagg, sizeOf, typeInfo, hq, hs, hl]
set_option maxRecDepth 100000 in
theorem wpList_load_arr {ops : Array Oper} {rest : List Oper} {o : Oper} {a : Act} {w : World} {Q : Exit → Act → World → Prop} (hgd : o.guard = none) (ty : TypeId) (x : Operand) (ho : o.op = .load ty x)
    (g off n N : Nat) (F : Nat → Value) (hx : a.eval x = .pointer (some ⟨g, off, none⟩)) (t : TypeId) (fr : Nat × Nat) (d : TypeDesc) (hg : w.heap[g]? = some (.cells (rowArr N F) t fr)) (hn : off + n ≤ N)
    (hu : Tryz.prog.underlying ty = some d) (hd : isAggD d = true) (hi : (Tryz.prog.info? ty).map (·.size) = some n)
    (h : wpList Tryz.prog ops Q rest (a.put o.dst (.agg (rowArr n fun j => F (off + j)))) w) : wpList Tryz.prog ops Q (o :: rest) a w :=
  wpList_plain hgd fun K hK => by
    unfold Oper.wp execOp
    simp only [ho, hx, Instr.loadAt, Instr.sureAddr, Sem.run_bind, Sem.run_pure, Result.andThen_ok, run_loadVar_arr (P := Tryz.prog) w g off n N F t ty fr d hg hn hu hd hi]
    exact hK _ _ h
set_option maxRecDepth 100000 in
/-- The same where the order is open: one value in every world of a class. -/
theorem quiet_load_arr {C : World → Prop} {o : Oper} {a : Act} {K : Act → Prop} (ty : TypeId) (x : Operand) (ho : o.op = .load ty x)
    (g off n N : Nat) (F : Nat → Value) (hx : a.eval x = .pointer (some ⟨g, off, none⟩)) (t : TypeId) (fr : Nat × Nat) (d : TypeDesc) (hg : ∀ w, C w → w.heap[g]? = some (.cells (rowArr N F) t fr)) (hn : off + n ≤ N)
    (hu : Tryz.prog.underlying ty = some d) (hd : isAggD d = true) (hi : (Tryz.prog.info? ty).map (·.size) = some n)
    (h : K (a.put o.dst (.agg (rowArr n fun j => F (off + j))))) : o.quiet Tryz.prog a C K := by
  refine ⟨_, fun w hw => ?_, h⟩
  unfold Oper.quietAt execOp
  simp only [ho, hx, Instr.loadAt, Instr.sureAddr, Sem.run_bind, Sem.run_pure, Result.andThen_ok, run_loadVar_arr (P := Tryz.prog) w g off n N F t ty fr d (hg w hw) hn hu hd hi]
  exact ⟨rfl, rfl⟩

/-! Structs compared, field by field. -/

def eqF (d : Nat) (xs ys : Array Value) : List (String × TypeId × Nat) → Sem Bool
  | [] => pure true
  | f :: fs =>
    if f.1 ≠ "_" then do
      let a ← part f.2.1 xs f.2.2
      let b ← part f.2.1 ys f.2.2
      let r ← Op.equalIn d f.2.1 a b
      if (!r) = true then pure false else eqF d xs ys fs
    else eqF d xs ys fs
theorem eqF_of (d : Nat) (xs ys : Array Value) : ∀ fs : List Field, Op.eqFields d xs ys fs = eqF d xs ys (fs.map fun f => (f.name, f.type, f.offset))
  | [] => rfl
  | f :: fs => by
    rw [List.map_cons, Op.eqFields, eqF, eqF_of d xs ys fs]
theorem eqF_cons {P : Program} {d : Nat} {xs ys : Array Value} {nm : String} {ty : TypeId} {off : Nat} {fs : List (String × TypeId × Nat)} {w : World} {a b : Value} {r s : Bool} (hn : nm ≠ "_")
    (ha : (part ty xs off).run P w = .ok a w) (hb : (part ty ys off).run P w = .ok b w) (he : (Op.equalIn d ty a b).run P w = .ok r w) (hs : (eqF d xs ys fs).run P w = .ok s w) :
    (eqF d xs ys ((nm, ty, off) :: fs)).run P w = .ok (r && s) w := by
  unfold eqF
  rw [if_pos hn]
  simp only [Sem.run_bind, ha, hb, he, Result.andThen_ok]
  cases r
  · simp
  · simp [hs]
theorem part_one {P : Program} {ty : TypeId} {N off : Nat} {F : Nat → Value} {w : World} (h : (isAgg ty).run P w = .ok false w) (ho : off < N) : (part ty (rowArr N F) off).run P w = .ok (F off) w := by
  have e : (rowArr N F)[off]? = some (F off) := by simp [rowArr, ho]
  simp only [part, Sem.run_bind, h, Result.andThen_ok, e]
  rfl
theorem part_arr {P : Program} {ty : TypeId} {N off n : Nat} {F : Nat → Value} {w : World} (h : (isAgg ty).run P w = .ok true w) (hs : (sizeOf ty).run P w = .ok n w) (ho : off + n ≤ N) : (part ty (rowArr N F) off).run P w = .ok (.agg (rowArr n fun j => F (off + j))) w := by
  have e : (rowArr N F).extract off (off + n) = rowArr n fun j => F (off + j) := by
    apply Array.ext_getElem?
    intro i
    by_cases hi : i < n
    · simp [rowArr, hi, show off + i < N by omega]
    · simp [rowArr, hi]
      omega
  simp [part, Sem.run_bind, h, hs, Result.andThen_ok, e]

/-! Arrays of bytes compared. -/

theorem row_cells (l : List Nat) (n : Nat) (hl : l.length = n) (hb : IsByte l) : rowArr n (vOf l) = ((l.map fun k => UInt8.ofNat k).map Extern.Stop.cell).toArray := by
  apply Array.ext_getElem?
  intro i
  by_cases hi : i < n
  · have hi2 : i < l.length := by omega
    have := hb l[i] (List.getElem_mem hi2)
    simp [rowArr, vOf, byteV, List.getD, hi, hi2, Extern.Stop.cell]
    omega
  · have hi2 : l.length ≤ i := by omega
    simp [rowArr, hi, hi2]
theorem bytes_beq {l m : List Nat} (hl : IsByte l) (hm : IsByte m) : ((l.map fun k => UInt8.ofNat k) == (m.map fun k => UInt8.ofNat k)) = decide (l = m) := by
  have key : ∀ (l m : List Nat), IsByte l → IsByte m → (l.map fun k => UInt8.ofNat k) = (m.map fun k => UInt8.ofNat k) → l = m := by
    intro l
    induction l with
    | nil => intro m _ _ h; cases m with
      | nil => rfl
      | cons y m => simp at h
    | cons x l ih =>
      intro m hl hm h
      cases m with
      | nil => simp at h
      | cons y m =>
        simp only [List.map_cons, List.cons.injEq] at h
        have a1 := hl x (by simp)
        have a2 := hm y (by simp)
        have e : x = y := by
          have := congrArg UInt8.toNat h.1
          simp at this
          omega
        rw [e, ih m (fun z hz => hl z (by simp [hz])) (fun z hz => hm z (by simp [hz])) h.2]
  by_cases e : l = m
  · subst e; simp
  · rw [decide_eq_false e, beq_eq_false_iff_ne]
    exact fun h => e (key l m hl hm h)
theorem str_beq {l m : List Nat} (hl : IsByte l) (hm : IsByte m) : ((strOf l).toList == (strOf m).toList) = decide (l = m) := by
  rw [← bytes_beq hl hm]
  congr 1
  all_goals
    unfold strOf
    rw [ByteArray.toList_eq, strOfNums_data, List.map_map]
    rfl
theorem eq_arr {n : Nat} {t : TypeId} (ht : Tryz.prog.underlying t = some (.array n 5)) {l m : List Nat} (hl : IsByte l) (hm : IsByte m) (hln : l.length = n) (hmn : m.length = n) (d : Nat) (w : World) :
    (Op.equalIn (d + 2) t (.agg (rowArr n (vOf l))) (.agg (rowArr n (vOf m)))).run Tryz.prog w = .ok (decide (l = m)) w := by
  rw [row_cells l n hln hl, row_cells m n hmn hm, run_equalIn_bytes w d t 5 n ht Tryz.underlying5 (fun w => Tryz.sizeOf5 w) _ _ (by simpa using hln) (by simpa using hmn), bytes_beq hl hm]

/-! Files' entries compared. -/

theorem fields_file : (Tryz.prog.fieldsOf 98).toList.map (fun f => (f.name, f.type, f.offset)) = [("Name", 9, 0), ("Size", 3, 1), ("Digest", 50, 2), ("First", 3, 34)] := by kernel_rfl
theorem und_file : Tryz.prog.underlying 98 = some (.struct (Tryz.prog.fieldsOf 98)) := by kernel_rfl
theorem held_file : Tryz.prog.stoodInHeld 98 = false := by kernel_rfl
theorem fil_arr (f : Fil) : (rowArr 32 fun j => filV f (2 + j)) = rowArr 32 (vOf f.dg) := by
  unfold rowArr
  congr 1
theorem fil_eq (f g : Fil) : (f = g) ↔ f.name = g.name ∧ f.size = g.size ∧ f.dg = g.dg ∧ f.first = g.first := by
  cases f; cases g; simp
instance fil_dec : DecidableEq Fil := fun f g => decidable_of_iff _ (fil_eq f g).symm
set_option maxRecDepth 100000 in
theorem eq_file {f g : Fil} (hf : FilOk f) (hg : FilOk g) (d : Nat) (w : World) : (Op.equalIn (d + 3) 98 (.agg (rowArr 35 (filV f))) (.agg (rowArr 35 (filV g)))).run Tryz.prog w = .ok (decide (f = g)) w := by
  rw [run_equalIn_struct w (d + 2) 98 _ _ und_file held_file, eqF_of, fields_file]
  have k1 := part_arr (P := Tryz.prog) (ty := 50) (N := 35) (off := 2) (n := 32) (F := filV f) (w := w) (Tryz.isAgg50 w) (Tryz.sizeOf50 w) (by omega)
  have k2 := part_arr (P := Tryz.prog) (ty := 50) (N := 35) (off := 2) (n := 32) (F := filV g) (w := w) (Tryz.isAgg50 w) (Tryz.sizeOf50 w) (by omega)
  rw [fil_arr] at k1 k2
  have e := eqF_cons (P := Tryz.prog) (d := d + 2) (nm := "Name") (ty := 9) (off := 0) (w := w) (by decide) (part_one (N := 35) (F := filV f) (Tryz.isAgg9 w) (by omega)) (part_one (N := 35) (F := filV g) (Tryz.isAgg9 w) (by omega)) (run_equalIn_string w (d + 1) 9 (strOf f.name) (strOf g.name) Tryz.underlying9)
    (eqF_cons (nm := "Size") (ty := 3) (off := 1) (by decide) (part_one (N := 35) (F := filV f) (Tryz.isAgg3 w) (by omega)) (part_one (N := 35) (F := filV g) (Tryz.isAgg3 w) (by omega)) (run_equalIn_int w (d + 1) 3 .i64 .i64 f.size g.size Tryz.underlying3)
    (eqF_cons (nm := "Digest") (ty := 50) (off := 2) (by decide) k1 k2 (eq_arr Tryz.underlying50 hf.dgb hg.dgb hf.dgl hg.dgl d w)
    (eqF_cons (nm := "First") (ty := 3) (off := 34) (by decide) (part_one (N := 35) (F := filV f) (Tryz.isAgg3 w) (by omega)) (part_one (N := 35) (F := filV g) (Tryz.isAgg3 w) (by omega)) (run_equalIn_int w (d + 1) 3 .i64 .i64 f.first g.first Tryz.underlying3)
    (show (eqF (d + 2) _ _ []).run Tryz.prog w = .ok true w from rfl))))
  rw [e, str_beq hf.byte hg.byte]
  congr 1
  rw [Bool.eq_iff_iff]
  simp [fil_eq]
end Go.Proofs.YtfgaohilpbocbaaGreatDoor
end
