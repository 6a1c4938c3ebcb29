/-
  Layer 13's law CodecWrites: what is put, told; bytes appended to a row of one's own.
  Package codec: an Out's Text and Raw; a copy of bytes, in memory that is new; nil.
  Layer 13's law CodecWrites: an Out and the row of bytes beside it.
  A statement that leaves its order open, whose operations write, the last one whatever it likes: any class of worlds up to the last one; the world itself is known at each step. Nothing of the program's dump is named here.
  As GrowK, where behind the last operation a variable is set. Nothing of the program's dump is named here.
  Statements that leave their order open and write: a class of worlds in which all but some blocks stay.
  Layer 13's law CodecWrites: an Out, the row of bytes beside it, and the item at hand.
  Bytes gathered by append, in a document's text: an account that says where they lie; the document's Main and Symbol.
  The CRC in numbers: one halving, eight of them for a byte, a fold for a list; that halvings are linear (exclusive or), and what follows for tables and for windows that roll.
-/
import Derived.Test.YtfgaohilpbocbaaGreatDoorMl7
import Derived.Maps.AppendAt
import Derived.Lib.ConvBytes
section
namespace Go.Proofs.YtfgaohilpbocbaaGreatDoor
open Go.ChangeShapes Go.WideShapes Go.ChangeAt Go.RowKit Go.Joins
set_option linter.unusedVariables false

/-- What an item puts. -/
def putI (x : Itm) : Option (List Nat) := if x.k < 3 then putN x.v x.n else if x.k = 3 then putT x.b else some x.b
def catI : List Itm → Option (List Nat)
  | [] => some []
  | x :: L => addO (putI x) (catI L)
/-- What has been put. -/
def outOf (L : List Itm) : Option (List Nat) := L.foldl (fun s x => addO s (putI x)) (some [])
theorem addO_assoc (a b c : Option (List Nat)) : addO (addO a b) c = addO a (addO b c) := by
  cases a <;> cases b <;> cases c <;> simp [addO]
theorem addO_nil (a : Option (List Nat)) : addO a (some []) = a := by cases a <;> simp [addO]
theorem nil_addO (a : Option (List Nat)) : addO (some []) a = a := by cases a <;> simp [addO]
theorem fold_cat : ∀ (L : List Itm) (s : Option (List Nat)), L.foldl (fun s x => addO s (putI x)) s = addO s (catI L)
  | [], s => (addO_nil s).symm
  | x :: L, s => by rw [List.foldl_cons, fold_cat L, addO_assoc]; rfl
theorem outOf_cat (L : List Itm) : outOf L = catI L := by unfold outOf; rw [fold_cat, nil_addO]
theorem outOf_next {L : List Itm} {k : Nat} (h : k < L.length) : outOf (L.take (k + 1)) = addO (outOf (L.take k)) (putI L[k]) := by
  unfold outOf
  rw [List.take_succ_eq_append_getElem h, List.foldl_append]
  rfl
/-- What is left to be got. -/
theorem cat_drop {L : List Itm} {k : Nat} (h : k < L.length) : catI (L.drop k) = addO (putI L[k]) (catI (L.drop (k + 1))) := by
  rw [List.drop_eq_getElem_cons h]; rfl
theorem addO_some {a b : Option (List Nat)} {l : List Nat} (h : addO a b = some l) : ∃ x r, a = some x ∧ b = some r ∧ l = x ++ r := by
  cases a with
  | none => simp [addO] at h
  | some x =>
    cases b with
    | none => simp [addO] at h
    | some r => exact ⟨x, r, rfl, rfl, by simpa [addO] using h.symm⟩
theorem outOf_none {L : List Itm} {k : Nat} (h : outOf (L.take k) = none) (hk : k ≤ L.length) : outOf L = none := by
  have e : L = L.take k ++ L.drop k := (List.take_append_drop k L).symm
  have : outOf L = addO (outOf (L.take k)) (catI (L.drop k)) := by
    conv => lhs; rw [e]
    unfold outOf
    rw [List.foldl_append, fold_cat]
  rw [this, h]
  rfl

/-- A row of bytes that a call makes by append. -/
def OwnB (w : World) (v : Value) (l : List Nat) : Prop := w.ownsRow 0 5 1 v l.length (l.map byteV)
theorem OwnB.nil (w : World) : OwnB w (.slice none 0 0) [] := World.ownsRow_nil _ _ _ _
theorem info8C : (Tryz.prog.info? 5).map (fun i => (i.zero, i.size, i.bytes)) = some (some (.int .u8 0), 1, 1) := by kernel_rfl
theorem run_addB (w : World) (ty : TypeId) {v : Value} {l : List Nat} (ho : OwnB w v l) (ga : Option Addr) (gc : Nat) (m : List Nat) (hs : Sl w ga gc m) (hn : l.length + m.length ≤ 1000000) :
    ∃ v' w', (Builtin.append_ #[53, 53] ty #[v, .slice ga m.length gc]).run Tryz.prog w = .ok v' w' ∧ OwnB w' v' (l ++ m) ∧ w.grownBy w' v.ownBlock ∧ (v'.ownBlock = v.ownBlock ∨ v'.ownBlock = some w.heap.size) := by
  obtain ⟨i0, hi, hz0, hz1, hz2⟩ := info_parts info8C
  by_cases hga : ga = none
  · subst hga
    obtain ⟨rfl, rfl⟩ := hs.none rfl
    refine ⟨v, w, ?_, by rw [List.append_nil]; exact ho, ⟨rfl, rfl, rfl, Nat.le_refl _, fun _ _ _ => rfl⟩, .inl rfl⟩
    rcases ho.2 with ⟨rfl, _⟩ | ⟨gg, cap, cur, rfl, -, -, hcap, -, -, -⟩
    · simp [Builtin.append_, run_underlying Tryz.underlying53, sizeOf, typeInfo, hi, Builtin.lenOf, Builtin.firstCells]
    · simp [Builtin.append_, run_underlying Tryz.underlying53, sizeOf, typeInfo, hi, Builtin.lenOf, Builtin.firstCells, storeCells, hcap]
  · obtain ⟨ad, rfl⟩ := Option.ne_none_iff_exists'.1 hga
    have hnews : ∀ j u, (m.map byteV)[j]? = some u → w.cell? (ad.add j) = some u := fun j u hj => by
      rw [List.getElem?_map] at hj
      obtain ⟨x, hx, rfl⟩ := Option.map_eq_some_iff.1 hj
      obtain ⟨hjl, rfl⟩ := List.getElem?_eq_some_iff.1 hx
      obtain ⟨b, off, e, hb⟩ := hs.some (k := j) hjl
      cases e
      have := hb j hjl
      by_cases j0 : j = 0
      · subst j0; simpa [Addr.add, byteV] using this
      · simpa [Addr.add, j0, byteV] using this
    obtain ⟨v', w', hr, h2, h3, h4, h5⟩ := run_append_own_at (P := Tryz.prog) w 0 53 ty 5 i0 (.int .u8 0) 1 1 Tryz.underlying53 hi hz0 hz1 hz2 rfl (by decide) v l.length (l.map byteV) ho ad m.length gc (m.map byteV) (by simp) hnews (fun u hu => by obtain ⟨n, _, rfl⟩ := List.mem_map.1 hu; rfl) (by unfold maxLen; omega) (by omega) (Nat.zero_le _)
    refine ⟨v', w', hr, ?_, h3, h5⟩
    unfold OwnB
    rw [List.length_append, List.map_append]
    exact h2
theorem wpList_addB {ops : Array Oper} {rest : List Oper} {o : Oper} {a : Act} {Q : Exit → Act → World → Prop} (w : World) (hgd : o.guard = none) (s x : Operand)
    (ho : o.op = .call { callee := .builtin .append, args := #[s, x], argTypes := #[53, 53] })
    (v : Value) (l : List Nat) (hsv : a.eval s = v) (hown : OwnB w v l) (ga : Option Addr) (gc q : Nat) (m : List Nat) (hxv : a.eval x = .slice ga q gc) (hq : m.length = q) (hs : Sl w ga gc m) (hn : l.length + m.length ≤ 1000000)
    (h : ∀ v' w', Hid (OwnB w' v' (l ++ m)) → Hid (w.grownBy w' v.ownBlock) → Hid (v'.ownBlock = v.ownBlock ∨ v'.ownBlock = some w.heap.size) → wpList Tryz.prog ops Q rest (a.put o.dst v') w') :
    wpList Tryz.prog ops Q (o :: rest) a w := by
  subst hq
  refine wpList_plain hgd fun K hK => ?_
  obtain ⟨v', w', hr, h2, h3, h4⟩ := run_addB w o.type hown ga gc m hs hn
  unfold Oper.wp execOp
  simp only [ho, resolve, invoke, builtin, Sem.run_bind, Sem.run_pure, Result.andThen_ok, List.map_toArray, List.map_cons, List.map_nil, hsv, hxv, hr]
  exact hK _ _ (h v' w' h2 h3 h4)
theorem OwnB.fr {X : Nat → Prop} {w w' : World} {v : Value} {l : List Nat} (h : OwnB w v l) (k : Fr X w w') (hx : ∀ b, v.ownBlock = some b → ¬ X b) : OwnB w' v l := by
  refine ⟨h.1, ?_⟩
  rcases h.2 with h0 | ⟨g, cap, cur, e, h1, hg, r⟩
  · exact .inl h0
  · refine .inr ⟨g, cap, cur, e, h1, ?_, r⟩
    rw [k.block g (Array.getElem?_eq_some_iff.1 hg).1 (hx g (by rw [e]; rfl))]
    exact hg
end Go.Proofs.YtfgaohilpbocbaaGreatDoor
end

section
namespace Go.Proofs.YtfgaohilpbocbaaGreatDoor
open Go.ChangeShapes Go.WideShapes Go.ChangeAt Go.RowKit Go.Joins
set_option linter.unusedVariables false

/-- A row of one's own, read. -/
theorem OwnB.sl {w : World} {v : Value} {l : List Nat} (h : OwnB w v l) (hb : IsByte l) : ∃ a c, v = .slice a l.length c ∧ Sl w a c l ∧ ∀ p, a = some p → v.ownBlock = some p.block := by
  rcases h.2 with ⟨rfl, hn⟩ | ⟨g, cap, cur, rfl, h0, hg, h1, h2, h3, h4⟩
  · have e : l = [] := List.eq_nil_of_length_eq_zero hn
    subst e
    exact ⟨none, 0, rfl, nil_sl w, fun p hp => by cases hp⟩
  · refine ⟨some ⟨g, 0, none⟩, cap, rfl, ⟨hb, h1, h2, fun e => (by cases e), .inr ⟨g, 0, rfl, fun i hi => ?_⟩⟩, fun p hp => by cases hp; rfl⟩
    have := World.ownsRow.cells h (g := g) rfl i (byteV l[i]) (by rw [List.getElem?_map, List.getElem?_eq_getElem hi]; rfl)
    by_cases hi0 : i = 0
    · subst hi0; simpa [Addr.add, byteV] using this
    · simpa [Addr.add, hi0, byteV] using this

set_option maxRecDepth 100000 in
/-- bytes.Clone: a copy in memory that is new. -/
theorem clone_new (a : Option Addr) (cap : Nat) (l : List Nat) (w : World) (hl : l.length ≤ 100000) (hs : Sl w a cap l) :
    Calls Tryz.prog 60 #[.slice a l.length cap] w fun e w' => ∃ sa sc, e = .returned (.slice sa l.length sc) ∧ Sl w' sa sc l ∧ (∀ p, sa = some p → w.heap.size ≤ p.block) ∧ Below w.heap.size w w' := by
  cases a with
  | none =>
    obtain ⟨rfl, rfl⟩ := hs.none rfl
    have hq := eqs_no w
    have HR : Hid (Sl w none 0 []) := nil_sl w
    clear hs
    go_enter Tryz.func60, Tryz.ntmps60
    go_wp2_with fail
    go_ret
    exact ⟨_, _, rfl, HR.out, fun p hp => (by cases hp), Below.refl _ _⟩
  | some ad =>
    have hq := eqs_yes ad l.length cap w
    have HBY := Lib.hid hs.byte
    have HB : Hid (Below w.heap.size w (w.alloc (.cells #[] 5))) := (Below.refl _ _).alloc (Nat.le_refl _) _
    have HS : Hid (Sl (w.alloc (.cells #[] 5)) (some ad) cap l) := hs.below HB.out
    have HE : Hid (OwnB (w.alloc (.cells #[] 5)) (.slice (some ⟨w.heap.size, 0, none⟩) 0 0) []) := World.ownsRow_made w #[] 0 (Nat.zero_le _) (by simp) (by simp)
    have hlm := hs.lt
    have hcm : cap ≤ 9223372036854775807 := by have := hs.most; unfold maxLen at this; omega
    clear hs
    go_enter Tryz.func60, Tryz.ntmps60
    go_wp2_with (at_builtin; refine wpList_addB _ rfl _ _ rfl (.slice (some ⟨w.heap.size, 0, none⟩) 0 0) [] rfl HE.out (some ad) cap l.length l rfl rfl HS.out (by simp; omega) ?_; intro v2 w2 HR2 hg2 ho2)
    have hw2 := Below.grown HB.out hg2.out (by simp) (fun k hk => by
      have : w.heap.size = k := by simpa [Value.ownBlock] using hk
      omega)
    have HW := Lib.hid hw2
    obtain ⟨a2, c2, rfl, hsl, hob⟩ := HR2.out.sl HBY.out
    have HSL := Lib.hid hsl
    have HOB : Hid (∀ p, a2 = some p → w.heap.size ≤ p.block) := fun p hp => by
      rcases ho2.out with h | h
      · rw [hob p hp] at h
        have : p.block = w.heap.size := by simpa [Value.ownBlock] using h
        omega
      · rw [hob p hp] at h
        have : p.block = _ := Option.some.inj h
        rw [this]
        simp
    clear HR2 hg2 ho2 hsl hob hw2 HE
    go_wp2_with fail
    go_ret
    exact ⟨a2, c2, by simp, by simpa using HSL.out, HOB.out, HW.out⟩

/-! Text. -/

theorem strOf_size (l : List Nat) : (strOf l).size = l.length := by unfold strOf; rw [strOfNums_size, List.length_map]
theorem strOf_get (l : List Nat) (hb : IsByte l) (j : Nat) (hj : j < l.length) : (((strOf l).data.toList.getD j 0).toNat : Int) = ((l[j] : Nat) : Int) := by
  unfold strOf
  rw [strOfNums_data]
  have := hb l[j] (List.getElem_mem hj)
  simp [List.getD, hj]
  omega
/-- '[]byte(s)': bytes in memory that is new. -/
theorem conv_str (w : World) (l : List Nat) (hb : IsByte l) (hl : l.length ≤ 1000000) :
    ∃ c w', (convert 9 53 (.string (strOf l))).run Tryz.prog w = .ok (.slice (some ⟨w.heap.size, 0, none⟩) l.length c) w' ∧ Sl w' (some ⟨w.heap.size, 0, none⟩) c l ∧ Below w.heap.size w w' := by
  have hr := Go.Lib.run_convert_string_bytes w 9 53 5 (strOf l) Tryz.underlying9 Tryz.underlying53 Tryz.underlying5
  rw [strOf_size] at hr
  refine ⟨_, _, hr, ⟨hb, ?_, ?_, fun e => (by cases e), .inr ⟨w.heap.size, 0, rfl, fun i hi => ?_⟩⟩, ⟨rfl, rfl, rfl, ?_, fun k hk => Go.Lib.bytesWorld_at_old w _ _ k hk⟩⟩
  · have := grownCap_ge w l.length 0 5
    omega
  · exact grownCap_le_maxLen _ _ _ _ (by unfold maxLen; omega)
  · rw [Nat.zero_add, Go.Lib.bytesWorld_cell w _ _ i (by rw [strOf_size]; exact hi), strOf_get l hb i hi]
  · rw [Go.Lib.bytesWorld_size]; omega

theorem addO_text (s : Option (List Nat)) (l : List Nat) : addO (addO s (putN (l.length : Int) 1)) (some l) = addO s (putT l) := by
  rw [addO_assoc]
  have e : (256 : Int) ^ (1 : Int).toNat = 256 := rfl
  have e2 : addO (putN (l.length : Int) 1) (some l) = putT l := by
    unfold putN putT
    by_cases h : l.length ≤ 255
    · rw [if_pos ⟨by omega, by omega, by omega, by rw [e]; omega⟩, if_pos h]
      have h2 : wideN l.length 1 = [l.length] := by
        show [] ++ [l.length % 256] = _
        rw [Nat.mod_eq_of_lt (by omega)]; rfl
      rw [show (1 : Int).toNat = 1 from rfl, Int.toNat_natCast, h2]
      rfl
    · rw [if_neg fun e' => h (by have := e'.2.2.2; rw [e] at this; omega), if_neg h]
      rfl
  rw [e2]

theorem Fr.over {X Y : Nat → Prop} {w w1 w2 : World} (h : Fr X w w1) (k : Fr Y w1 w2) (hy : ∀ j, Y j → X j ∨ w.heap.size ≤ j) : Fr X w w2 :=
  ⟨k.os.trans h.os, k.tape.trans h.tape, k.output.trans h.output, Nat.le_trans h.size k.size, fun j hj hx => by
    rw [k.block j (Nat.lt_of_lt_of_le hj h.size) fun e => (hy j e).elim hx fun h => by omega]
    exact h.block j hj hx⟩
set_option maxRecDepth 100000 in
set_option maxHeartbeats 1000000 in
theorem outT_any (X : Nat → Prop) (w : World) (b : Nat) (s : Option (List Nat)) (q : Nat) (l : List Nat) (h : OutAt X w b s q) (hq : q ≤ 40000) (hb : IsByte l) (hl : l.length ≤ 20000) :
    Calls Tryz.prog 179 #[.pointer (some ⟨b, 0, none⟩), .string (strOf l)] w (OutPost OutAt X w b (addO s (putT l)) (q + l.length + 6)) := by
  have HN := Lib.hid (outN_any X w b s q (l.length : Int) 1 h hq ⟨by omega, by omega⟩ ⟨by omega, by omega⟩)
  have HS := Lib.hid (strOf_size l)
  have hsz := strOf_size l
  have HBY := Lib.hid hb
  have HX := Lib.hid (addO_text s l)
  clear h hb
  go_enter Tryz.func179, Tryz.ntmps179
  go_wp2_with fail
  (with_reducible refine HN.out.mono ?_)
  rintro e w1 ⟨rfl, X1, hX1, hN1, hF1⟩
  have HX1 := Lib.hid hX1
  have HN1 := Lib.hid hN1
  have HF1 := Lib.hid hF1
  obtain ⟨c, w2, hcv, hsl, hbw⟩ := conv_str w1 l HBY.out (by omega)
  have HP := Lib.hid (put_any X1 w2 b (addO s (putN (l.length : Int) 1)) (q + 6) (some ⟨w1.heap.size, 0, none⟩) c l (hX1.keep (Fr.of_below (X := fun _ => False) hbw) (fun _ _ h => h)) hsl fun r hr _ => by
    cases hr
    have := hX1.2.1 b hX1.1
    show w1.heap.size ≠ b
    omega)
  have HBW := Lib.hid hbw
  clear hX1 hN1 hF1 hsl hbw
  go_wp2_with fail
  (with_reducible refine HP.out.mono ?_)
  rintro e w3 ⟨rfl, X3, hX3, hN3, hF3⟩
  go_wp2_with fail
  go_end0
  have h1 := HF1.out.size
  have h2 := HBW.out.size
  refine ⟨rfl, X3, ?_, fun j hj => ?_, ?_⟩
  · rw [← HX.out]
    exact hX3.mono (by omega)
  · rcases hN3 j hj with h | h | ⟨r, hr, rfl⟩
    · exact HN1.out j h
    · exact .inr (by omega)
    · cases hr
      exact .inr h1
  · exact (HF1.out.trans (Fr.of_below HBW.out)).over hF3 fun j hj => HN1.out j hj

set_option maxRecDepth 100000 in
set_option maxHeartbeats 1000000 in
theorem outR_any (X : Nat → Prop) (w : World) (b : Nat) (s : Option (List Nat)) (q : Nat) (a : Option Addr) (c : Nat) (l : List Nat) (h : OutAt X w b s q) (hq : q ≤ 40000) (hs : Sl w a c l) (hl : l.length ≤ 20000) :
    Calls Tryz.prog 141 #[.pointer (some ⟨b, 0, none⟩), .slice a l.length c] w (OutPost OutAt X w b (addO s (some l)) (q + l.length)) := by
  have HC := Lib.hid (clone_new a c l w (by omega) hs)
  have H := Lib.hid h
  clear h hs
  go_enter Tryz.func141, Tryz.ntmps141
  go_wp2_with fail
  (with_reducible refine HC.out.mono ?_)
  rintro e w2 ⟨sa, sc, rfl, hsl, hnew, hbw⟩
  have HP := Lib.hid (put_any X w2 b s q sa sc l (H.out.keep (Fr.of_below (X := fun _ => False) hbw) (fun _ _ h => h)) hsl fun r hr _ => by
    have := H.out.2.1 b H.out.1
    have := hnew r hr
    omega)
  have HBW := Lib.hid hbw
  have HNW := Lib.hid hnew
  clear hsl hbw hnew HC
  go_wp2_with fail
  (with_reducible refine HP.out.mono ?_)
  rintro e w3 ⟨rfl, X3, hX3, hN3, hF3⟩
  go_wp2_with fail
  go_end0
  have h2 := HBW.out.size
  refine ⟨rfl, X3, hX3, fun j hj => ?_, (Fr.of_below HBW.out).trans hF3⟩
  rcases hN3 j hj with h | h | ⟨r, hr, rfl⟩
  · exact .inl h
  · exact .inr (by omega)
  · exact .inr (HNW.out r hr)

/-! Of nothing. -/

set_option maxRecDepth 100000 in
theorem outT_nil (w : World) : Calls Tryz.prog 179 #[.pointer none, .string (strOf [97])] w fun e w' => e = .returned (.tuple #[]) ∧ Below w.heap.size w w' := by
  have HN := Lib.hid (outN_nil w 1 1 ⟨by omega, by omega⟩ ⟨by omega, by omega⟩)
  have hsz : (strOf [97]).size = 1 := strOf_size [97]
  go_enter Tryz.func179, Tryz.ntmps179
  go_wp2_with fail
  (with_reducible refine HN.out.mono ?_)
  rintro e w1 ⟨rfl, hb1⟩
  obtain ⟨c, w2, hcv, hsl, hbw⟩ := conv_str w1 [97] (by simp [IsByte]) (by simp)
  have HP := Lib.hid (put_nil (some ⟨w1.heap.size, 0, none⟩) 1 c w2)
  have HB := Lib.hid (hb1.trans (hbw.mono hb1.size))
  have hcv2 : (convert 9 53 (.string (strOf [97]))).run Tryz.prog w1 = .ok (.slice (some ⟨w1.heap.size, 0, none⟩) 1 c) w2 := hcv
  clear hsl hbw hb1 hcv
  go_wp2_with fail
  (with_reducible refine HP.out.mono ?_)
  rintro e w3 ⟨rfl, rfl⟩
  go_wp2_with fail
  go_end0
  exact ⟨rfl, HB.out⟩
set_option maxRecDepth 100000 in
theorem outR_nil (w : World) (a : Option Addr) (c : Nat) (hs : Sl w a c [98]) : Calls Tryz.prog 141 #[.pointer none, .slice a 1 c] w fun e w' => e = .returned (.tuple #[]) ∧ Below w.heap.size w w' := by
  have HC := Lib.hid (clone_new a c [98] w (by simp) hs)
  clear hs
  go_enter Tryz.func141, Tryz.ntmps141
  go_wp2_with fail
  refine HC.out.mono ?_
  rintro e w2 ⟨sa, sc, rfl, hsl, hnew, hbw⟩
  have HP := Lib.hid (put_nil sa 1 sc w2)
  have HB := Lib.hid hbw
  clear hsl hbw hnew HC
  go_wp2_with fail
  (with_reducible refine HP.out.mono ?_)
  rintro e w3 ⟨rfl, rfl⟩
  go_wp2_with fail
  go_end0
  exact ⟨rfl, HB.out⟩
end Go.Proofs.YtfgaohilpbocbaaGreatDoor
end

section
namespace Go.Proofs.YtfgaohilpbocbaaGreatDoor
open Go.ChangeShapes Go.WideShapes Go.ChangeAt Go.RowKit Go.Joins
set_option linter.unusedVariables false

/-- An Out (block b) that has s, and beside it a row v of one's own that reads as W. -/
structure Mid (Od : (Nat → Prop) → World → Nat → Option (List Nat) → Nat → Prop) (w0 : World) (b q : Nat) (w : World) (v : Value) (s : Option (List Nat)) (W : List Nat) : Prop where
  own : OwnB w v W
  od : ∃ X, Od X w b s q ∧ ∀ j, X j → w0.heap.size ≤ j ∧ v.ownBlock ≠ some j
  low : ∀ j, v.ownBlock = some j → w0.heap.size ≤ j
  below : Below w0.heap.size w0 w
variable {Od : (Nat → Prop) → World → Nat → Option (List Nat) → Nat → Prop}
theorem Mid.later (HC : OutC Od) {w0 w w' : World} {b q : Nat} {v : Value} {s : Option (List Nat)} {W : List Nat} (h : Mid Od w0 b q w v s W) (k : Below w.heap.size w w') : Mid Od w0 b q w' v s W := by
  obtain ⟨X, h1, h2⟩ := h.od
  exact ⟨h.own.fr (Fr.of_below (X := fun _ => False) k) (fun _ _ h => h), ⟨X, HC.keep h1 (Fr.of_below (X := fun _ => False) k) (fun _ _ h => h), h2⟩, h.low, h.below.trans (k.mono h.below.size)⟩
theorem Mid.mono (HC : OutC Od) {w0 w : World} {b q q' : Nat} {v : Value} {s : Option (List Nat)} {W : List Nat} (h : Mid Od w0 b q w v s W) (hq : q ≤ q') : Mid Od w0 b q' w v s W := by
  obtain ⟨X, h1, h2⟩ := h.od
  exact ⟨h.own, ⟨X, HC.mono h1 hq, h2⟩, h.low, h.below⟩
/-- Something is put. -/
theorem Mid.put (HC : OutC Od) {w0 w : World} {b q q' : Nat} {v : Value} {s s' : Option (List Nat)} {W : List Nat} (h : Mid Od w0 b q w v s W) {f : FuncId} {args : Array Value}
    (hc : ∀ X, Od X w b s q → (∀ j, X j → w0.heap.size ≤ j) → Calls Tryz.prog f args w (OutPost Od X w b s' q')) : Calls Tryz.prog f args w fun e w' => e = .returned (.tuple #[]) ∧ Mid Od w0 b q' w' v s' W := by
  obtain ⟨X, h1, h2⟩ := h.od
  have hlt := fun j (e : v.ownBlock = some j) => (show j < w.heap.size by
    rcases h.own.2 with ⟨e1, _⟩ | ⟨g, cap, cur, e1, _, hg, _⟩
    · rw [e1] at e; cases e
    · rw [e1] at e
      cases e
      exact (Array.getElem?_eq_some_iff.1 hg).1)
  refine (hc X h1 fun j hj => (h2 j hj).1).mono ?_
  rintro e w' ⟨rfl, X', h3, h4, h5⟩
  refine ⟨rfl, h.own.fr h5 (fun j hj hX => (h2 j hX).2 hj), ⟨X', h3, fun j hj => ?_⟩, h.low, h.below.trans (h5.below h.below.size fun j hj hX => by have := (h2 j hX).1; omega)⟩
  rcases h4 j hj with h6 | h6
  · exact h2 j h6
  · have := h.below.size
    exact ⟨by omega, fun e => by have := hlt j e; omega⟩
/-- Bytes are appended to the row. -/
theorem Mid.add (HC : OutC Od) {w0 w w' : World} {b q : Nat} {v v' : Value} {s : Option (List Nat)} {W m : List Nat} (h : Mid Od w0 b q w v s W) (h1 : OwnB w' v' (W ++ m)) (h2 : w.grownBy w' v.ownBlock) (h3 : v'.ownBlock = v.ownBlock ∨ v'.ownBlock = some w.heap.size) : Mid Od w0 b q w' v' s (W ++ m) := by
  obtain ⟨X, k1, k2⟩ := h.od
  have hf : Fr (fun j => v.ownBlock = some j) w w' := Fr.of_grown h2 fun j e => e
  refine ⟨h1, ⟨X, HC.keep k1 hf fun j hj e => (k2 j hj).2 e, fun j hj => ⟨(k2 j hj).1, fun e => ?_⟩⟩, fun j hj => ?_, h.below.trans (hf.below h.below.size fun j hj e => by have := h.low j e; omega)⟩
  · rcases h3 with h4 | h4
    · rw [h4] at e; exact (k2 j hj).2 e
    · rw [h4] at e
      have := HC.lt k1 j hj
      have := Option.some.inj e
      omega
  · rcases h3 with h4 | h4
    · exact h.low j (by rw [← h4]; exact hj)
    · rw [h4] at hj
      have := Option.some.inj hj
      have := h.below.size
      omega
theorem Mid.start (HC : OutC Od) (w1 w0 : World) (k : Below w0.heap.size w0 w1) : Mid Od w0 w1.heap.size 0 (w1.alloc (.cells outZ 239)) (.slice none 0 0) (some []) [] :=
  ⟨OwnB.nil _, ⟨_, HC.zero w1, fun j hj => ⟨by have := k.size; omega, by simp [Value.ownBlock]⟩⟩, fun j hj => by simp [Value.ownBlock] at hj, k.trans (((Below.refl _ _).alloc (Nat.le_refl _) _).mono k.size)⟩
end Go.Proofs.YtfgaohilpbocbaaGreatDoor
end

section
namespace Go.Proofs.YtfgaohilpbocbaaGreatDoor
open Go.RowKit Go.Sort
set_option linter.unusedVariables false

section
variable {P : Program} {ops : Array Oper} {Q : Exit → Act → World → Prop} {C : World → Prop} {last : Nat}

theorem growK_begin (last : Nat) (C : World → Prop) {id : Nat} {a : Act} {w : World} {l : List Oper} (hm : P.follows .mixedOrders = true)
    (h : wpAnyT P l.toArray (NoPanic Q) C last l.length (Array.replicate l.length false) a w.drew) : (Code.region id l.toArray true).wp P Q a w := by
  refine wp_region_noPanic (wp_region_any hm (wpAny_of_T (C := C) (last := last) _ _ _ _ ?_))
  rw [List.size_toArray]
  exact h
theorem growK_take (hs : Region.noSelect ops = true) : ∀ (is : List Nat) (n : Nat) (listed : Array Bool) (a : Act), takesT ops last is listed = true → ∀ w, C w →
    wpQuiet P ops C (fun a' => wpAnyT P ops (NoPanic Q) C last n (marks is listed) a' w) (opsAt ops is) a → wpAnyT P ops (NoPanic Q) C last (n + is.length) listed a w
  | [], n, listed, a, _, w, hw, h => h
  | i :: is, n, listed, a, hB, w, hw, h => by
    simp only [takesT, Bool.and_eq_true, Bool.or_eq_true, Bool.not_eq_true', beq_eq_false_iff_ne] at hB
    obtain ⟨⟨⟨⟨⟨hr, hf⟩, hk⟩, hil⟩, hp⟩, hB'⟩ := hB
    cases ho : ops[i]? with
    | none => rw [ho] at hp; simp at hp
    | some o =>
      rw [ho] at hp
      have hp' : plainOp o.op = true := by simpa using hp
      simp only [opsAt, ho, wpQuiet] at h
      have key : ∃ v, YieldsIf P ops C o v a ∧ wpQuiet P ops C (fun a' => wpAnyT P ops (NoPanic Q) C last n (marks is (listed.setIfInBounds i true)) a' w) (opsAt ops is) (a.put o.dst v) := by
        by_cases hwt : Region.wanted o (yielded ops a.tmps) = true
        · rw [if_pos hwt] at h
          obtain ⟨v, h1, h2⟩ := h
          exact ⟨v, yieldsIf_of_quiet hp' hwt h1, h2⟩
        · rw [if_neg hwt] at h
          exact ⟨undef, .inr ⟨by simpa using hwt, rfl⟩, h⟩
      obtain ⟨v, hy, hq⟩ := key
      have rest := growK_take hs is n (listed.setIfInBounds i true) (a.put o.dst v) hB' w hw hq
      cases hlo : loose ops i with
      | false =>
        rw [hlo] at hk
        obtain ⟨hk1, hk2⟩ := hk.resolve_left (by simp)
        exact wpAnyT_take ho hil hlo (sink_of hk1) hk2 hs hf hr (fun _ _ _ h => h) hy hw rest
      | true =>
        refine wpAnyT_loose ho hil hs hf hr (fun _ _ _ h => h) ?_ hw rest
        unfold loose at hlo
        rw [ho] at hlo
        obtain ⟨x, k, hop⟩ : ∃ x k, o.op = .extract x k := by
          cases hop : o.op <;> simp only [hop, Bool.false_eq_true] at hlo
          exact ⟨_, _, rfl⟩
        exact hy.imp (fun ⟨h1, h2⟩ => ⟨h1, fun w' _ => extract_any hop (h2 w hw) w'⟩) id
theorem growK_one (i : Nat) {n : Nat} {listed : Array Bool} {a : Act} {w : World} (hr : Region.ready .any ops listed = [i])
    (h : ∀ K : Act → World → Prop, Shut (∀ a' w1, C w1 → wpAnyT P ops (NoPanic Q) C last n (listed.setIfInBounds i true) a' w1 → K a' w1) →
      stepOf P ops (NoPanic Q) K a w ops[i]?) : wpAnyT P ops (NoPanic Q) C last (n + 1) listed a w := by
  refine wpAnyT_all hr (by simp) fun j hj => ?_
  obtain rfl : j = i := by simpa using hj
  have hs := h (fun a' w' => ((listed.setIfInBounds j true).getD last true = false → C w') ∧ wpAnyT P ops (NoPanic Q) C last n (listed.setIfInBounds j true) a' w') (fun a' w1 h1 h2 => ⟨fun _ => h1, h2⟩)
  unfold wpOp
  cases ho : ops[j]? with
  | none => rw [ho] at hs; exact hs.elim
  | some o =>
    rw [ho] at hs
    simp only [stepOf] at hs
    show if Region.wanted o (yielded ops a.tmps) = true then _ else _
    by_cases hwt : Region.wanted o (yielded ops a.tmps) = true
    · rw [if_pos hwt] at hs ⊢; exact .inl hs
    · rw [if_neg hwt] at hs ⊢; exact hs
/-- Whichever of those that may come up comes up. -/
theorem growK_all (rs : List Nat) {n : Nat} {listed : Array Bool} {a : Act} {w : World} (hr : Region.ready .any ops listed = rs) (hne : rs ≠ [])
    (h : ∀ i ∈ rs, ∀ K : Act → World → Prop, Shut (∀ a' w1, C w1 → wpAnyT P ops (NoPanic Q) C last n (listed.setIfInBounds i true) a' w1 → K a' w1) →
      stepOf P ops (NoPanic Q) K a w ops[i]?) : wpAnyT P ops (NoPanic Q) C last (n + 1) listed a w := by
  refine wpAnyT_all hr hne fun j hj => ?_
  have hs := h j hj (fun a' w' => ((listed.setIfInBounds j true).getD last true = false → C w') ∧ wpAnyT P ops (NoPanic Q) C last n (listed.setIfInBounds j true) a' w') (fun a' w1 h1 h2 => ⟨fun _ => h1, h2⟩)
  unfold wpOp
  cases ho : ops[j]? with
  | none => rw [ho] at hs; exact hs.elim
  | some o =>
    rw [ho] at hs
    simp only [stepOf] at hs
    show if Region.wanted o (yielded ops a.tmps) = true then _ else _
    by_cases hwt : Region.wanted o (yielded ops a.tmps) = true
    · rw [if_pos hwt] at hs ⊢; exact .inl hs
    · rw [if_neg hwt] at hs ⊢; exact hs
/-- One of two. -/
theorem growK_two (i j : Nat) {n : Nat} {listed : Array Bool} {a : Act} {w : World} (hr : Region.ready .any ops listed = [i, j])
    (h1 : ∀ K : Act → World → Prop, Shut (∀ a' w1, C w1 → wpAnyT P ops (NoPanic Q) C last n (listed.setIfInBounds i true) a' w1 → K a' w1) → stepOf P ops (NoPanic Q) K a w ops[i]?)
    (h2 : ∀ K : Act → World → Prop, Shut (∀ a' w1, C w1 → wpAnyT P ops (NoPanic Q) C last n (listed.setIfInBounds j true) a' w1 → K a' w1) → stepOf P ops (NoPanic Q) K a w ops[j]?) : wpAnyT P ops (NoPanic Q) C last (n + 1) listed a w :=
  growK_all [i, j] hr (by simp) fun x hx => by
    rcases List.mem_cons.1 hx with rfl | hx
    · exact h1
    · obtain rfl := List.mem_singleton.1 hx
      exact h2
theorem growK_last {n : Nat} {listed : Array Bool} {a : Act} {w : World} (hr : Region.ready .any ops listed = [last]) (hd : Region.ready .any ops (listed.setIfInBounds last true) = [])
    (h : ∀ K : Act → World → Prop, Shut (∀ a' w1, Q .normal a' w1 → K a' w1) → stepOf P ops (NoPanic Q) K a w ops[last]?) : wpAnyT P ops (NoPanic Q) C last (n + 1) listed a w := by
  refine wpAnyT_all hr (by simp) fun j hj => ?_
  obtain rfl : j = last := by simpa using hj
  have hs := h (fun a' w' => ((listed.setIfInBounds j true).getD j true = false → C w') ∧ wpAnyT P ops (NoPanic Q) C j n (listed.setIfInBounds j true) a' w') (fun a' w1 hq => ⟨fun e => (by rw [getD_set_self] at e; cases e), wpAnyT_done hd (NoPanic.normal hq) n⟩)
  unfold wpOp
  cases ho : ops[j]? with
  | none => rw [ho] at hs; exact hs.elim
  | some o =>
    rw [ho] at hs
    simp only [stepOf] at hs
    show if Region.wanted o (yielded ops a.tmps) = true then _ else _
    by_cases hwt : Region.wanted o (yielded ops a.tmps) = true
    · rw [if_pos hwt] at hs ⊢; exact .inl hs
    · rw [if_neg hwt] at hs ⊢; exact hs
end
end Go.Proofs.YtfgaohilpbocbaaGreatDoor
end

section
namespace Go.Proofs.YtfgaohilpbocbaaGreatDoor
open Go.RowKit Go.Sort
set_option linter.unusedVariables false

section
variable {P : Program} {ops : Array Oper} {Q : Exit → Act → World → Prop} {C : World → Prop} {last : Nat}

theorem growKU_last {i n : Nat} {listed : Array Bool} {a : Act} {w : World} (hr : Region.ready .any ops listed = [last]) (h2 : Region.ready .any ops (listed.setIfInBounds last true) = [i]) (hil : i ≠ last) (hd : Region.ready .any ops ((listed.setIfInBounds last true).setIfInBounds i true) = [])
    (h : ∀ K : Act → World → Prop, Shut (∀ a' w1, stepOf P ops (NoPanic Q) (fun a2 w2 => Q .normal a2 w2) a' w1 ops[i]? → K a' w1) → stepOf P ops (NoPanic Q) K a w ops[last]?) : wpAnyT P ops (NoPanic Q) C last (n + 2) listed a w := by
  refine wpAnyT_all hr (by simp) fun j hj => ?_
  obtain rfl : j = last := by simpa using hj
  have hone : ∀ {K : Act → World → Prop} {q : Nat} {a1 : Act} {w1 : World}, stepOf P ops (NoPanic Q) K a1 w1 ops[q]? → wpOp P ops (NoPanic Q) q K a1 w1 := fun {K q a1 w1} hs => by
    unfold wpOp
    cases ho : ops[q]? with
    | none => rw [ho] at hs; exact hs.elim
    | some o =>
      rw [ho] at hs
      simp only [stepOf] at hs
      show if Region.wanted o (yielded ops a1.tmps) = true then _ else _
      by_cases hwt : Region.wanted o (yielded ops a1.tmps) = true
      · rw [if_pos hwt] at hs ⊢; exact .inl hs
      · rw [if_neg hwt] at hs ⊢; exact hs
  refine hone (h _ (fun a' w1 hq => ⟨fun e => (by rw [getD_set_self] at e; cases e), ?_⟩))
  refine wpAnyT_all h2 (by simp) fun q hq' => ?_
  obtain rfl : q = i := by simpa using hq'
  refine wpOp_mono (fun a2 w2 hq2 => ⟨fun e => ?_, wpAnyT_done hd (NoPanic.normal hq2) n⟩) (hone hq)
  rw [getD_set_ne true hil, getD_set_self] at e
  cases e
end
end Go.Proofs.YtfgaohilpbocbaaGreatDoor
end

section
namespace Go.Proofs.YtfgaohilpbocbaaGreatDoor
open Go.ChangeShapes Go.WideShapes Go.ChangeAt Go.RowKit Go.Joins
set_option linter.unusedVariables false

/-- Worlds that have what W has, but for the blocks that S names. -/
structure KeepW (W : World) (S : Nat → Prop) where
  v : World
  h : Fr S W v
instance keepW_some (W : World) (S : Nat → Prop) : Nonempty (KeepW W S) := ⟨⟨W, Fr.refl _ _⟩⟩
theorem keep_class {W w : World} {S : Nat → Prop} (h : Fr S W w) : ∃ p : KeepW W S, w = p.v := ⟨⟨w, h⟩, rfl⟩
theorem KeepW.cell {W : World} {S : Nat → Prop} (p : KeepW W S) {b i : Nat} (hb : b < W.heap.size) (hS : ¬ S b) : p.v.cell? ⟨b, i, none⟩ = W.cell? ⟨b, i, none⟩ :=
  World.cell?_of_block (a := ⟨b, i, none⟩) (p.h.block b hb hS)
theorem KeepW.loose {W : World} {S : Nat → Prop} (p : KeepW W S) {b i : Nat} (hb : b < W.heap.size) (hS : ¬ S b) {cs : Array Value} {t : TypeId} (h : W.heap[b]? = some (.cells cs t (0, 0))) : p.v.frozen? ⟨b, i, none⟩ = false :=
  unfrozen_of_block ((p.h.block b hb hS).trans h) i
end Go.Proofs.YtfgaohilpbocbaaGreatDoor
end

section
namespace Go.Proofs.YtfgaohilpbocbaaGreatDoor
open Go.ChangeShapes Go.WideShapes Go.ChangeAt Go.RowKit Go.Joins
set_option linter.unusedVariables false

/-- An Out (block b) that has s, beside it a row v of one's own that reads as W, and a block p, which is neither's. -/
structure MidB (Od : (Nat → Prop) → World → Nat → Option (List Nat) → Nat → Prop) (w0 : World) (b q p : Nat) (ob : Obj) (w : World) (v : Value) (s : Option (List Nat)) (W : List Nat) : Prop where
  own : OwnB w v W
  od : ∃ X, Od X w b s q ∧ ∀ j, X j → w0.heap.size ≤ j ∧ v.ownBlock ≠ some j ∧ j ≠ p
  low : ∀ j, v.ownBlock = some j → w0.heap.size ≤ j ∧ j ≠ p
  below : Below w0.heap.size w0 w
  box : w.heap[p]? = some ob
variable {Od : (Nat → Prop) → World → Nat → Option (List Nat) → Nat → Prop}
theorem MidB.mid {w0 w : World} {b q p : Nat} {ob : Obj} {v : Value} {s : Option (List Nat)} {W : List Nat} (h : MidB Od w0 b q p ob w v s W) : Mid Od w0 b q w v s W := by
  obtain ⟨X, h1, h2⟩ := h.od
  exact ⟨h.own, ⟨X, h1, fun j hj => ⟨(h2 j hj).1, (h2 j hj).2.1⟩⟩, fun j hj => (h.low j hj).1, h.below⟩
theorem OwnB.lt {w : World} {v : Value} {l : List Nat} (h : OwnB w v l) (j : Nat) (e : v.ownBlock = some j) : j < w.heap.size := by
  rcases h.2 with ⟨e1, _⟩ | ⟨g, cap, cur, e1, _, hg, _⟩
  · rw [e1] at e; cases e
  · rw [e1] at e
    cases e
    exact (Array.getElem?_eq_some_iff.1 hg).1
theorem Mid.box (HC : OutC Od) {w0 w : World} {b q : Nat} {v : Value} {s : Option (List Nat)} {W : List Nat} (h : Mid Od w0 b q w v s W) (cs : Array Value) (t : TypeId) : MidB Od w0 b q w.heap.size (.cells cs t (0, 0)) (w.alloc (.cells cs t)) v s W := by
  have h' := h.later HC ((Below.refl _ _).alloc (Nat.le_refl _) (.cells cs t))
  obtain ⟨X, h1, h2⟩ := h.od
  refine ⟨h'.own, ⟨X, HC.keep h1 (Fr.of_below (X := fun _ => False) ((Below.refl _ _).alloc (Nat.le_refl _) _)) (fun _ _ h => h), fun j hj => ⟨(h2 j hj).1, (h2 j hj).2, ?_⟩⟩, fun j hj => ⟨h.low j hj, ?_⟩, h'.below, heap_alloc_last w _⟩
  · have := HC.lt h1 j hj
    omega
  · have := h.own.lt j hj
    omega
theorem MidB.blk {w0 w : World} {b q p : Nat} {ob : Obj} {v : Value} {s : Option (List Nat)} {W : List Nat} (h : MidB Od w0 b q p ob w v s W) : p < w.heap.size := (Array.getElem?_eq_some_iff.1 h.box).1
theorem MidB.later (HC : OutC Od) {w0 w w' : World} {b q p : Nat} {ob : Obj} {v : Value} {s : Option (List Nat)} {W : List Nat} (h : MidB Od w0 b q p ob w v s W) (k : Below w.heap.size w w') : MidB Od w0 b q p ob w' v s W := by
  obtain ⟨X, h1, h2⟩ := h.od
  exact ⟨h.own.fr (Fr.of_below (X := fun _ => False) k) (fun _ _ h => h), ⟨X, HC.keep h1 (Fr.of_below (X := fun _ => False) k) (fun _ _ h => h), h2⟩, h.low, h.below.trans (k.mono h.below.size), (k.block p h.blk).trans h.box⟩
/-- Something is put. -/
theorem MidB.put (HC : OutC Od) {w0 w : World} {b q q' p : Nat} {ob : Obj} {v : Value} {s s' : Option (List Nat)} {W : List Nat} (h : MidB Od w0 b q p ob w v s W) {f : FuncId} {args : Array Value}
    (hc : ∀ X, Od X w b s q → Calls Tryz.prog f args w (OutPost Od X w b s' q')) : Calls Tryz.prog f args w fun e w' => e = .returned (.tuple #[]) ∧ MidB Od w0 b q' p ob w' v s' W := by
  obtain ⟨X, h1, h2⟩ := h.od
  refine (hc X h1).mono ?_
  rintro e w' ⟨rfl, X', h3, h4, h5⟩
  refine ⟨rfl, h.own.fr h5 (fun j hj hX => (h2 j hX).2.1 hj), ⟨X', h3, fun j hj => ?_⟩, h.low, h.below.trans (h5.below h.below.size fun j hj hX => by have := (h2 j hX).1; omega), (h5.block p h.blk fun e => (h2 p e).2.2 rfl).trans h.box⟩
  rcases h4 j hj with h6 | h6
  · exact h2 j h6
  · have := h.below.size
    have hp := h.blk
    exact ⟨by omega, fun e => by have := h.own.lt j e; omega, by omega⟩
/-- Bytes are appended to the row. -/
theorem MidB.add (HC : OutC Od) {w0 w w' : World} {b q p : Nat} {ob : Obj} {v v' : Value} {s : Option (List Nat)} {W m : List Nat} (h : MidB Od w0 b q p ob w v s W) (h1 : OwnB w' v' (W ++ m)) (h2 : w.grownBy w' v.ownBlock) (h3 : v'.ownBlock = v.ownBlock ∨ v'.ownBlock = some w.heap.size) : MidB Od w0 b q p ob w' v' s (W ++ m) := by
  obtain ⟨X, k1, k2⟩ := h.od
  have hf : Fr (fun j => v.ownBlock = some j) w w' := Fr.of_grown h2 fun j e => e
  have hp := h.blk
  refine ⟨h1, ⟨X, HC.keep k1 hf fun j hj e => (k2 j hj).2.1 e, fun j hj => ⟨(k2 j hj).1, fun e => ?_, (k2 j hj).2.2⟩⟩, fun j hj => ?_, h.below.trans (hf.below h.below.size fun j hj e => by have := (h.low j e).1; omega), (hf.block p hp fun e => (h.low p e).2 rfl).trans h.box⟩
  · rcases h3 with h4 | h4
    · rw [h4] at e; exact (k2 j hj).2.1 e
    · rw [h4] at e
      have := HC.lt k1 j hj
      have := Option.some.inj e
      omega
  · rcases h3 with h4 | h4
    · exact h.low j (by rw [← h4]; exact hj)
    · rw [h4] at hj
      have := Option.some.inj hj
      have := h.below.size
      exact ⟨by omega, by omega⟩
theorem MidB.mono (HC : OutC Od) {w0 w : World} {b q q' p : Nat} {ob : Obj} {v : Value} {s : Option (List Nat)} {W : List Nat} (h : MidB Od w0 b q p ob w v s W) (hq : q ≤ q') : MidB Od w0 b q' p ob w v s W := by
  obtain ⟨X, h1, h2⟩ := h.od
  exact ⟨h.own, ⟨X, HC.mono h1 hq, h2⟩, h.low, h.below, h.box⟩
/-- Bytes appended, where the order is open. -/
theorem wp_addB {o : Oper} {a : Act} {K : Act → World → Prop} {Q : Exit → Act → World → Prop} (w : World) (s x : Operand)
    (ho : o.op = .call { callee := .builtin .append, args := #[s, x], argTypes := #[53, 53] })
    (v : Value) (l : List Nat) (hsv : a.eval s = v) (hown : OwnB w v l) (ga : Option Addr) (gc q : Nat) (m : List Nat) (hxv : a.eval x = .slice ga q gc) (hq : m.length = q) (hs : Sl w ga gc m) (hn : l.length + m.length ≤ 1000000)
    (h : ∀ v' w', Hid (OwnB w' v' (l ++ m)) → Hid (w.grownBy w' v.ownBlock) → Hid (v'.ownBlock = v.ownBlock ∨ v'.ownBlock = some w.heap.size) → K (a.put o.dst v') w') : o.wp Tryz.prog a w K Q := by
  subst hq
  obtain ⟨v', w', hr, h2, h3, h4⟩ := run_addB w o.type hown ga gc m hs hn
  unfold Oper.wp execOp
  simp only [ho, resolve, invoke, builtin, Sem.run_bind, Sem.run_pure, Result.andThen_ok, List.map_toArray, List.map_cons, List.map_nil, hsv, hxv, hr]
  exact h v' w' h2 h3 h4
end Go.Proofs.YtfgaohilpbocbaaGreatDoor
end

section
namespace Go.Proofs.YtfgaohilpbocbaaGreatDoor
open Go.ChangeShapes Go.WideShapes Go.ChangeAt Go.RowKit Go.Joins
set_option linter.unusedVariables false

/-- Behind w0 a row v of one's own that reads as l. -/
structure Acc (w0 w : World) (v : Value) (l : List Nat) : Prop where
  own : OwnB w v l
  low : ∀ j, v.ownBlock = some j → w0.heap.size ≤ j
  below : Below w0.heap.size w0 w
theorem Acc.later {w0 w w' : World} {v : Value} {l : List Nat} (h : Acc w0 w v l) (k : Below w.heap.size w w') : Acc w0 w' v l :=
  ⟨h.own.fr (Fr.of_below (X := fun _ => False) k) (fun _ _ h => h), h.low, h.below.trans (k.mono h.below.size)⟩
theorem Acc.add {w0 w w' : World} {v v' : Value} {l m : List Nat} (h : Acc w0 w v l) (h1 : OwnB w' v' (l ++ m)) (h2 : w.grownBy w' v.ownBlock) (h3 : v'.ownBlock = v.ownBlock ∨ v'.ownBlock = some w.heap.size) : Acc w0 w' v' (l ++ m) := by
  refine ⟨h1, fun j hj => ?_, h.below.grown h2 h.below.size fun k hk => h.low k hk⟩
  rcases h3 with h4 | h4
  · exact h.low j (by rw [← h4]; exact hj)
  · rw [h4] at hj
    have := Option.some.inj hj
    have := h.below.size
    omega
theorem Acc.base {w0 w1 w : World} {v : Value} {l : List Nat} (h : Acc w1 w v l) (k : Below w0.heap.size w0 w1) : Acc w0 w v l :=
  ⟨h.own, fun j hj => Nat.le_trans k.size (h.low j hj), k.trans (h.below.mono k.size)⟩
theorem Acc.nil {w0 w : World} (h : Below w0.heap.size w0 w) : Acc w0 w (.slice none 0 0) [] := ⟨OwnB.nil _, fun j hj => by simp [Value.ownBlock] at hj, h⟩
/-- A row that a call has made, whole. -/
theorem OwnB.of_row {w : World} {B n : Nat} {l : List Nat} (h : Row w B 5 n n (vOf l)) (hl : l.length = n) (hn : n ≤ maxLen) : OwnB w (.slice (some ⟨B, 0, none⟩) n n) l := by
  refine ⟨by simp, .inr ⟨B, n, rowArr n (vOf l), by rw [hl], Nat.zero_le _, h.whole, Nat.le_of_eq hl, hn, by rw [rowArr_size, Nat.mul_one], ?_⟩⟩
  rw [Nat.mul_one, hl]
  unfold rowArr
  rw [List.take_of_length_le (by simp)]
  apply List.ext_getElem?
  intro i
  by_cases hi : i < n
  · have hi2 : i < l.length := by omega
    simp [hi, hi2, vOf, List.getD]
  · have hi2 : l.length ≤ i := by omega
    simp [hi, hi2]
theorem Acc.of_new {w0 w w' : World} {l : List Nat} {n : Nat} (h : NewTo w w' l n) (hl : l.length = n) (hn : n ≤ 1000000) (k : Below w0.heap.size w0 w) : Acc w0 w' (.slice (some ⟨w.heap.size, 0, none⟩) n n) l := by
  refine ⟨OwnB.of_row (by have := h.row; rw [hl] at this; exact this) hl (by unfold maxLen; omega), fun j hj => ?_, k.trans (h.below.mono k.size)⟩
  have : w.heap.size = j := by simpa [Value.ownBlock] using hj
  have := k.size
  omega
/-- A row written out. -/
theorem row_of_cells (w : World) (l : List Nat) (cs : Array Value) (h : cs = rowArr l.length (vOf l)) : Row (w.alloc (.cells cs 5)) w.heap.size 5 l.length l.length (vOf l) := by
  subst h
  exact Row.of_whole (heap_alloc_last w _)

def u64N (z : Int) : Nat := (z % 18446744073709551616).toNat
def u8N (z : Int) : Nat := (z % 256).toNat
theorem u64N_lt (z : Int) : u64N z < 18446744073709551616 := by unfold u64N; omega
theorem u8N_lt (z : Int) : u8N z < 256 := by unfold u8N; omega
theorem u64_wrap (z : Int) : IntKind.u64.wrap z = (u64N z : Int) := by rw [IntKind.wrap_u64]; unfold u64N; omega
theorem u8_wrap (z : Int) : IntKind.u8.wrap z = (u8N z : Int) := by
  unfold u8N
  simp [IntKind.wrap, IntKind.signed, IntKind.bits]
  omega
/-- The body of a main packet; of a symbol's. -/
def mainN (s f n : Int) : List Nat := wideN (u64N s) 2 ++ [u8N f] ++ wideN (u64N n) 2
def symbolN (id : Nat) (d : List Nat) : List Nat := wideN id 4 ++ d

theorem NewTo.one {w w' : World} {l : List Nat} {n : Nat} (h : NewTo w w' l n) (hl : l.length = n) (hb : IsByte l) (hn : n ≤ 1000000) : Sl w' (some ⟨w.heap.size, 0, none⟩) n l := by
  subst hl
  exact h.sl hb hn

set_option maxRecDepth 100000 in
set_option maxHeartbeats 1000000 in
theorem refMain_any (s f n : Int) (w : World) (hs : i64R s) (hf : i64R f) (hn : i64R n) :
    Calls Tryz.prog 89 #[.int .i64 s, .int .i64 f, .int .i64 n] w fun e w' => ∃ v, e = .returned v ∧ Acc w w' v (mainN s f n) := by
  have HW1 := Lib.hid (wide_any (u64N s) 2 w (u64N_lt s) (by omega))
  have HW2 : Hid (∀ w, Calls Tryz.prog 77 #[.int .u64 (u64N n : Int), .int .i64 (2 : Nat)] w fun e w' => e = .returned (.slice (some ⟨w.heap.size, 0, none⟩) 2 2) ∧ NewTo w w' (wideN (u64N n) 2) 2) := fun w => wide_any (u64N n) 2 w (u64N_lt n) (by omega)
  have e1 := u64_wrap s
  have e2 := u64_wrap n
  have e3 := u8_wrap f
  have h8 := u8N_lt f
  obtain ⟨S, hS⟩ : ∃ S, S = u64N s := ⟨_, rfl⟩
  obtain ⟨M, hM⟩ : ∃ M, M = u64N n := ⟨_, rfl⟩
  obtain ⟨F, hF⟩ : ∃ F, F = u8N f := ⟨_, rfl⟩
  have HR : Hid (mainN s f n = wideN S 2 ++ [F] ++ wideN M 2) := by unfold mainN; rw [hS, hM, hF]; rfl
  rw [← hS] at HW1 e1
  rw [← hM] at HW2 e2
  rw [← hF] at e3 h8
  clear hS hM hF hs hf hn
  go_enter Tryz.func89, Tryz.ntmps89
  go_wp2_with fail
  refine HW1.out.mono ?_
  rintro e w1 ⟨rfl, hn1⟩
  have HA1 := Lib.hid (Acc.of_new hn1 (wideN_len _ _) (by omega) (Below.refl w.heap.size w))
  have HB1 : Hid (Below w1.heap.size w1 (w1.alloc (.cells #[.int .u8 (F : Int)] 5))) := (Below.refl _ _).alloc (Nat.le_refl _) _
  have HY1 : Hid (Sl (w1.alloc (.cells #[.int .u8 (F : Int)] 5)) (some ⟨w1.heap.size, 0, none⟩) 1 [F]) := Row.sl (row_of_cells w1 [F] _ rfl) rfl (by intro x hx; simp at hx; omega) (by unfold maxLen; simp)
  clear hn1 HW1
  go_wp2_with (at_builtin; refine wpList_addB _ rfl _ _ rfl (.slice (some ⟨w.heap.size, 0, none⟩) 2 2) (wideN S 2) rfl (HA1.out.later HB1.out).own (some ⟨w1.heap.size, 0, none⟩) 1 1 [F] rfl rfl HY1.out (by rw [wideN_len]; simp) ?_; intro v2 w2 o2 g2 e2')
  have HA2 := Lib.hid ((HA1.out.later HB1.out).add o2.out g2.out e2'.out)
  have HWD := Lib.hid (HW2.out w2)
  clear HA1 HB1 HY1 o2 g2 e2'
  go_wp2_with fail
  refine HWD.out.mono ?_
  rintro e w3 ⟨rfl, hn3⟩
  have HA3 := Lib.hid (HA2.out.later hn3.below)
  have HY3 := Lib.hid (hn3.one (wideN_len _ _) (wideN_byte _ _) (by omega))
  clear hn3 HWD HA2
  go_wp2_with (at_builtin; refine wpList_addB _ rfl _ _ rfl v2 (wideN S 2 ++ [F]) rfl HA3.out.own (some ⟨w2.heap.size, 0, none⟩) 2 2 (wideN M 2) rfl (wideN_len _ _) HY3.out (by rw [List.length_append, wideN_len, wideN_len]; simp) ?_; intro v4 w4 o4 g4 e4)
  have HA4 := Lib.hid (HA3.out.add o4.out g4.out e4.out)
  clear HA3 HY3 o4 g4 e4
  go_ret
  exact ⟨v4, rfl, by rw [HR.out]; exact HA4.out⟩
end Go.Proofs.YtfgaohilpbocbaaGreatDoor
end

section
namespace Go.Proofs.YtfgaohilpbocbaaGreatDoor.Sha

def stp (x : Nat) : Nat := x / 2 ^^^ (if x % 2 = 1 then 3988292384 else 0)

theorem xor_swap (a b c d : Nat) : (a ^^^ b) ^^^ (c ^^^ d) = (a ^^^ c) ^^^ (b ^^^ d) := by ac_rfl

theorem stp_xor (x y : Nat) : stp (x ^^^ y) = stp x ^^^ stp y := by
  unfold stp
  rw [Nat.xor_div_two, xor_swap]
  congr 1
  have h := @Nat.xor_mod_two_eq_one x y
  by_cases hx : x % 2 = 1 <;> by_cases hy : y % 2 = 1 <;> simp [hx, hy, h, Nat.xor_self]

theorem stp_even (y : Nat) : stp (2 * y) = y := by
  unfold stp
  rw [if_neg (by omega)]
  simp

theorem stp_lt (x : Nat) (h : x < 4294967296) : stp x < 4294967296 := by
  unfold stp
  have : x / 2 ^^^ (if x % 2 = 1 then 3988292384 else 0) < 2 ^ 32 := Nat.xor_lt_two_pow (by omega) (by split <;> omega)
  simpa using this

def stps : Nat → Nat → Nat
  | 0, x => x
  | k + 1, x => stp (stps k x)

theorem stps_xor (k x y : Nat) : stps k (x ^^^ y) = stps k x ^^^ stps k y := by
  induction k with
  | zero => rfl
  | succ k ih => simp only [stps, ih, stp_xor]

theorem stps_lt (k x : Nat) (h : x < 4294967296) : stps k x < 4294967296 := by
  induction k with
  | zero => exact h
  | succ k ih => exact stp_lt _ ih

theorem stps_add (k m x : Nat) : stps (k + m) x = stps k (stps m x) := by
  induction k with
  | zero => simp [stps]
  | succ k ih => rw [Nat.add_right_comm]; simp only [stps, ih]

def four (k : Nat) : Nat := [0, 498536548, 997073096, 651767980, 1994146192, 1802195444, 1303535960, 1342533948, 3988292384, 4027552580, 3604390888, 3412177804, 2607071920, 2262029012, 2685067896, 3183342108].getD k 0

theorem four_eq : ∀ k, k < 16 → stps 4 k = four k := by decide

theorem four_lt (k : Nat) (h : k < 16) : four k < 4294967296 := by
  rw [← four_eq k h]; exact stps_lt _ _ (by omega)

theorem split16 (x : Nat) : x = 2 * (2 * (2 * (2 * (x / 16)))) ^^^ x % 16 := by
  have h := Nat.two_pow_add_eq_or_of_lt (i := 4) (b := x % 16) (by omega) (x / 16)
  apply Nat.eq_of_testBit_eq
  intro i
  have e : 2 * (2 * (2 * (2 * (x / 16)))) = 2 ^ 4 * (x / 16) := by omega
  have hx : x = 2 ^ 4 * (x / 16) ||| x % 16 := by rw [← h]; omega
  have hm : x % 16 = x % 2 ^ 4 := rfl
  rw [e, Nat.testBit_xor, Nat.testBit_two_pow_mul, hm, Nat.testBit_mod_two_pow]
  conv => lhs; rw [hx, Nat.testBit_or, Nat.testBit_two_pow_mul, hm, Nat.testBit_mod_two_pow]
  by_cases h4 : i < 4
  · simp [h4, show ¬ 4 ≤ i by omega]
  · simp [h4]

theorem half_byte (x : Nat) : x / 16 ^^^ four (x % 16) = stps 4 x := by
  conv => rhs; rw [split16 x, stps_xor, four_eq _ (Nat.mod_lt _ (by omega))]
  simp [stps, stp_even]

/-- One more byte, into a CRC that isn't turned at last yet. -/
def feedN (s c : Nat) : Nat := stps 8 (s ^^^ c)

theorem byte_lt (s c : Nat) (hs : s < 4294967296) (hc : c < 256) : s ^^^ c < 4294967296 := by
  have : s ^^^ c < 2 ^ 32 := Nat.xor_lt_two_pow (by omega) (by omega)
  simpa using this

theorem feedN_lt (s c : Nat) (hs : s < 4294967296) (hc : c < 256) : feedN s c < 4294967296 := stps_lt _ _ (byte_lt s c hs hc)

theorem feed_eq (x : Nat) : (x / 16 ^^^ four (x % 16)) / 16 ^^^ four ((x / 16 ^^^ four (x % 16)) % 16) = stps 8 x := by
  rw [half_byte, half_byte, ← stps_add]

/-- A list of bytes, taken in from a state on. -/
def feedAll (s : Nat) (l : List Nat) : Nat := l.foldl feedN s

theorem feedAll_snoc (s : Nat) (l : List Nat) (c : Nat) : feedAll s (l ++ [c]) = feedN (feedAll s l) c := by simp [feedAll]

def IsByte (l : List Nat) : Prop := ∀ c ∈ l, c < 256

theorem feedAll_lt (l : List Nat) : ∀ (s : Nat), s < 4294967296 → IsByte l → feedAll s l < 4294967296 := by
  induction l with
  | nil => intro s hs _; exact hs
  | cons c l ih => intro s hs hl; exact ih _ (feedN_lt s c hs (hl c (by simp))) fun x hx => hl x (by simp [hx])

def crcN (l : List Nat) : Nat := feedAll 4294967295 l ^^^ 4294967295

theorem crc_known : crcN [49, 50, 51, 52, 53, 54, 55, 56, 57] = 3421780262 := by decide +kernel

theorem turn_lt (x : Nat) (h : x < 4294967296) : x ^^^ 4294967295 < 4294967296 := by
  have : x ^^^ 4294967295 < 2 ^ 32 := Nat.xor_lt_two_pow (by omega) (by omega)
  simpa using this

/-- The document's way: bit by bit, the byte's bits taken in one by one. -/
def bitStep (r b k : Nat) : Nat := r / 2 ^^^ (if (r % 2 ^^^ b / 2 ^ k % 2) = 1 then 3988292384 else 0)

theorem bit_step (r b k : Nat) : stp (r ^^^ b / 2 ^ k) = bitStep r b k ^^^ b / 2 ^ (k + 1) := by
  unfold stp bitStep
  have e : b / 2 ^ (k + 1) = b / 2 ^ k / 2 := by rw [Nat.pow_succ, Nat.div_div_eq_div_mul]
  rw [Nat.xor_div_two, e]
  have h := @Nat.xor_mod_two_eq_one r (b / 2 ^ k)
  have h2 : (r % 2 ^^^ b / 2 ^ k % 2) = (r ^^^ b / 2 ^ k) % 2 := by
    have := @Nat.xor_mod_two_pow r (b / 2 ^ k) 1
    simpa using this.symm
  rw [h2]
  ac_rfl

def bitSteps (r b : Nat) : Nat → Nat
  | 0 => r
  | k + 1 => bitStep (bitSteps r b k) b k

theorem bit_steps (r b k : Nat) : stps k (r ^^^ b) = bitSteps r b k ^^^ b / 2 ^ k := by
  induction k with
  | zero => simp [stps, bitSteps]
  | succ k ih => simp only [stps, bitSteps, ih, bit_step]

theorem bit_steps8 (r b : Nat) (h : b < 256) : bitSteps r b 8 = feedN r b := by
  have := bit_steps r b 8
  rw [show b / 2 ^ 8 = 0 by omega, Nat.xor_zero] at this
  exact this.symm

theorem bitStep_lt (r b k : Nat) (h : r < 4294967296) : bitStep r b k < 4294967296 := by
  unfold bitStep
  have : r / 2 ^^^ (if (r % 2 ^^^ b / 2 ^ k % 2) = 1 then 3988292384 else 0) < 2 ^ 32 := Nat.xor_lt_two_pow (by omega) (by split <;> omega)
  simpa using this

theorem bitSteps_lt (r b k : Nat) (h : r < 4294967296) : bitSteps r b k < 4294967296 := by
  induction k with
  | zero => exact h
  | succ k ih => exact bitStep_lt _ _ _ ih

/-! Windows that roll. -/

def zeros : Nat → Nat → Nat
  | 0, x => x
  | n + 1, x => feedN (zeros n x) 0

theorem zeros_eq (n x : Nat) : zeros n x = stps (8 * n) x := by
  induction n with
  | zero => rfl
  | succ n ih => rw [zeros, feedN, Nat.xor_zero, ih, ← stps_add]; congr 1; omega

def leftN (c n : Nat) : Nat := zeros n (feedN 4294967295 c ^^^ 4294967295)

theorem feedN_xor (s d c : Nat) : feedN (s ^^^ d) c = feedN s c ^^^ stps 8 d := by
  unfold feedN
  rw [← stps_xor]
  congr 1
  ac_rfl

theorem feedAll_xor (l : List Nat) : ∀ (s d : Nat), feedAll (s ^^^ d) l = feedAll s l ^^^ stps (8 * l.length) d := by
  induction l with
  | nil => intro s d; rfl
  | cons c l ih =>
    intro s d
    show feedAll (feedN (s ^^^ d) c) l = feedAll (feedN s c) l ^^^ _
    rw [feedN_xor, ih, ← stps_add]
    congr 2

theorem xor_back (a b : Nat) : a ^^^ (b ^^^ a) = b := by
  rw [Nat.xor_comm b a, ← Nat.xor_assoc, Nat.xor_self, Nat.zero_xor]

theorem xor_back' (a b : Nat) : a ^^^ b ^^^ b = a := by
  rw [Nat.xor_assoc, Nat.xor_self, Nat.xor_zero]

theorem roll (o i : Nat) (l : List Nat) : feedN (crcN (o :: l) ^^^ 4294967295) i ^^^ 4294967295 ^^^ leftN o (l.length + 1) = crcN (l ++ [i]) := by
  unfold crcN leftN
  rw [xor_back', ← feedAll_snoc, zeros_eq]
  have h : feedAll 4294967295 (o :: l ++ [i]) = feedAll (4294967295 ^^^ (feedN 4294967295 o ^^^ 4294967295)) (l ++ [i]) := by rw [xor_back]; rfl
  rw [h, feedAll_xor]
  have e : (l ++ [i]).length = l.length + 1 := by simp
  rw [e]
  generalize stps _ _ = A
  generalize feedAll _ _ = B
  rw [Nat.xor_assoc B, Nat.xor_comm A, Nat.xor_assoc, Nat.xor_assoc, Nat.xor_self, Nat.xor_zero]

theorem leftN_eq (c n : Nat) : leftN c n = leftN 0 n ^^^ stps (8 * n + 8) c := by
  unfold leftN
  rw [zeros_eq, zeros_eq, stps_add]
  have h : feedN 4294967295 c = feedN 4294967295 0 ^^^ stps 8 c := by
    unfold feedN
    rw [Nat.xor_zero, stps_xor]
  rw [h, stps_xor, stps_xor, stps_xor]
  ac_rfl

theorem leftN_sum (a b n : Nat) : leftN a n ^^^ leftN b n ^^^ leftN 0 n = leftN (a ^^^ b) n := by
  rw [leftN_eq a, leftN_eq b, leftN_eq (a ^^^ b), stps_xor]
  generalize leftN 0 n = K
  generalize stps (8 * n + 8) a = A
  generalize stps (8 * n + 8) b = B
  rw [show K ^^^ A ^^^ (K ^^^ B) ^^^ K = (K ^^^ K) ^^^ (K ^^^ (A ^^^ B)) by ac_rfl, Nat.xor_self, Nat.zero_xor]

theorem zeros_lt (n x : Nat) (h : x < 4294967296) : zeros n x < 4294967296 := by
  rw [zeros_eq]; exact stps_lt _ _ h

theorem leftN_lt (c n : Nat) (h : c < 256) : leftN c n < 4294967296 := zeros_lt _ _ (turn_lt _ (feedN_lt _ _ (by omega) h))

end Go.Proofs.YtfgaohilpbocbaaGreatDoor.Sha
end
