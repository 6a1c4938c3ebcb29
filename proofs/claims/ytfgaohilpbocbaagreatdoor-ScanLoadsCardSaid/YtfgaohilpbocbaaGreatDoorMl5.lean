/-
  What Read and Append do to a disk.
  What Append does to a disk.
  The shelf's contracts on maps.Keys, slices.Sorted, slices.Sort (and maps.Clone), laid at this dump.
  The names of a table, sorted; a copy of a table.
  A disk's names; a new disk; what is read, as a list of bytes.
  The disk of ScanLoads: so many files by their names in order, none of them safe; what it tells.
  Bytes that came in, and how many there can be.
-/
import Derived.Test.YtfgaohilpbocbaaGreatDoorMl4
import Derived.Shelf.SlIter.Nil
import Derived.Shelf.SortM.Plain
import Derived.Shelf.SortM.SortNone
import Derived.Shelf.SlMaps.Clone
import Derived.Test.YtfgaohilpbocbaaGreatDoorRows
import Derived.SizedLaws
section
namespace Go.Proofs.YtfgaohilpbocbaaGreatDoor
open Go.ChangeShapes Go.WideShapes Go.ChangeAt Go.RowKit Go.Joins
set_option linter.unusedVariables false

def faultS (S : DSt) : DSt := { S with d := { S.d with gs := (dueD S.d.gs S.d.gl).2.1, gl := (dueD S.d.gs S.d.gl).2.2 } }
def readS (s : ByteArray) (S : DSt) : Int × DSt :=
  if S.d.lost then (6, S) else if numD S.Dn s = -1 then (7, S) else if (dueD S.d.gs S.d.gl).1 then (10, faultS S) else (0, faultS S)
theorem fault_rep {w : World} {B : Nat} {S : DSt} {g : Gh} (h : Rep w B S g) :
    Calls Tryz.prog 92 #[.pointer (some ⟨B, 7, none⟩)] w fun e w' => e = .returned (.bool (dueD S.d.gs S.d.gl).1) ∧ Rep w' B (faultS S) g ∧ Only B w w' := by
  refine (due_fault h.at').mono ?_
  rintro e w' ⟨rfl, h1, h2⟩
  exact ⟨rfl, h.core h1 h2, h2⟩

/-- What Read gives: of a file that is there and can be read a copy of its bytes, in new memory. -/
def DReadPost (B : Nat) (s : ByteArray) (S : DSt) (g : Gh) (w : World) (e : Ending) (w' : World) : Prop :=
  ∃ v w1, e = .returned (.tuple #[v, .int .i64 (readS s S).1]) ∧ Rep w' B (readS s S).2 g ∧ Only B w w1 ∧ Below w1.heap.size w1 w' ∧
    (((readS s S).1 ≠ 0 ∧ v = .slice none 0 0) ∨ ((readS s S).1 = 0 ∧ w'.ownsRow 0 5 1 v (S.F (numD S.Dn s).toNat).bytes.length ((S.F (numD S.Dn s).toNat).bytes.map byteD)))

set_option maxRecDepth 100000 in
theorem dread_any {w : World} {B : Nat} {S : DSt} {g : Gh} (s : ByteArray) (h : Rep w B S g) (hs : s.size ≤ maxLen) :
    Calls Tryz.prog 55 #[.pointer (some ⟨B, 0, none⟩), .string s] w (DReadPost B s S g w) := by
  have H := Lib.hid h
  have hp := power_rep h
  have c2 : w.cell? ⟨B, 2, none⟩ = some (.map g.nm) := by rw [h.at'.cell]; simp [Dk.cells, Gh.on]
  have hq := fault_rep h
  have hnum := h.nm.num hs
  clear h hs
  cases hl : S.d.lost with
  | true =>
    have HV : Hid (readS s S = (6, S)) := by show _ = _; unfold readS; rw [if_pos hl]
    rw [hl] at hp
    simp only [if_true] at hp
    clear hl hq hnum
    go_enter Tryz.func55, Tryz.ntmps55
    go_wp2_with fail
    (with_reducible refine hp.mono ?_)
    rintro e w1 ⟨rfl, rfl⟩
    go_wp2_with fail
    go_ret2
    refine ⟨.slice none 0 0, w, ?_, ?_, Only.refl _ _, Below.refl _ _, .inl ⟨?_, rfl⟩⟩ <;> rw [HV.out]
    · rfl
    · exact H.out
    · simp
  | false =>
    rw [hl] at hp
    simp only [Bool.false_eq_true, if_false] at hp
    rcases hnum with ⟨hn, hr⟩ | ⟨b, i, hi, hn, hr⟩
    · have HV : Hid (readS s S = (7, S)) := by show _ = _; unfold readS; rw [if_neg (by simp [hl]), if_pos hn]
      have hq := eqp_none w
      clear hl hn
      go_enter Tryz.func55, Tryz.ntmps55
      go_wp2_with fail
      (with_reducible refine hp.mono ?_)
      rintro e w1 ⟨rfl, rfl⟩
      go_wp2_with fail
      go_ret2
      refine ⟨.slice none 0 0, w, ?_, ?_, Only.refl _ _, Below.refl _ _, .inl ⟨?_, rfl⟩⟩ <;> rw [HV.out]
      · rfl
      · exact H.out
      · simp
    · have heq := eqp_some b w
      have hnn : ¬ numD S.Dn s = -1 := by rw [hn]; omega
      cases h0 : (dueD S.d.gs S.d.gl).1 with
      | true =>
        have HV : Hid (readS s S = (10, faultS S)) := by show _ = _; unfold readS; rw [if_neg (by simp [hl]), if_neg hnn, if_pos h0]
        rw [h0] at hq
        clear hl hn hnn hi h0
        go_enter Tryz.func55, Tryz.ntmps55
        go_wp2_with fail
        (with_reducible refine hp.mono ?_)
        rintro e w1 ⟨rfl, rfl⟩
        go_wp2_with fail
        (with_reducible refine hq.mono ?_)
        rintro e w1 ⟨rfl, h1, o1⟩
        have H1 := Lib.hid (And.intro h1 o1)
        clear h1 o1
        go_wp2_with fail
        go_ret2
        refine ⟨.slice none 0 0, w1, ?_, ?_, H1.out.2, Below.refl _ _, .inl ⟨?_, rfl⟩⟩ <;> rw [HV.out]
        · rfl
        · exact H1.out.1
        · simp
      | false =>
        have HV : Hid (readS s S = (0, faultS S)) := by show _ = _; unfold readS; rw [if_neg (by simp [hl]), if_neg hnn, if_neg (by simp [h0])]
        have HI := Lib.hid (And.intro hi hn)
        rw [h0] at hq
        clear hl hn hnn h0 hi
        go_enter Tryz.func55, Tryz.ntmps55
        go_wp2_with fail
        (with_reducible refine hp.mono ?_)
        rintro e w1 ⟨rfl, rfl⟩
        go_wp2_with fail
        (with_reducible refine hq.mono ?_)
        rintro e w1 ⟨rfl, h1, o1⟩
        have H1 := Lib.hid (And.intro h1 o1)
        obtain ⟨_, hsz, _, v, _, ho, hb⟩ : FileAt w1 b (g.rb i) (S.F i) := h1.files b i HI.out.1
        have hsz : (S.F i).bytes.length ≤ 1000000 := hsz
        have k0 : w1.cell? ⟨b, 0, none⟩ = some v := by rw [cell_of_row w1 b 0 _ _ (0, 0) hb]; rfl
        have hcl := cloneB_any ho hsz (fun u hu => by obtain ⟨n, _, rfl⟩ := List.mem_map.1 hu; rfl)
        obtain ⟨a, cap, rfl, -, -⟩ := own_shape ho
        clear h1 o1 c2 hr heq hp hq hb ho
        go_wp2_with fail
        (with_reducible refine hcl.mono ?_)
        rintro e w2 ⟨v', rfl, N2⟩
        obtain ⟨a', cap', rfl, -, -⟩ := own_shape N2.row
        have HR : Hid (DReadPost B s S g w (.returned (.tuple #[.slice a' (S.F i).bytes.length cap', .int .i64 0])) w2) := by
          refine ⟨.slice a' (S.F i).bytes.length cap', w1, ?_, ?_, H1.out.2, N2.low, .inr ⟨?_, ?_⟩⟩
          · rw [HV.out]
          · rw [HV.out]; exact H1.out.1.later N2.low
          · rw [HV.out]
          · rw [HI.out.2]; exact N2.row
        clear N2 hcl
        generalize (S.F i).bytes.length = n at *
        go_wp2_with fail
        go_ret2
        exact HR.out

/-! Append. -/
theorem Sl.dtake {w : World} {a : Option Addr} {cap : Nat} {l : List Nat} (h : Sl w a cap l) (k : Nat) : Sl w a cap (l.take k) := by
  refine ⟨fun n hn => h.byte n (List.mem_of_mem_take hn), ?_, h.most, fun e => ?_, ?_⟩
  · have := h.len; rw [List.length_take]; omega
  · obtain ⟨rfl, h2⟩ := h.none e; exact ⟨by simp, h2⟩
  · rcases h.here with rfl | ⟨b, off, e, hb⟩
    · exact .inl (by simp)
    · refine .inr ⟨b, off, e, fun i hi => ?_⟩
      have hi2 : i < l.length := by rw [List.length_take] at hi; omega
      rw [hb i hi2]
      simp
theorem Sl.fr {X : Nat → Prop} {w w' : World} {a : Option Addr} {cap : Nat} {l : List Nat} (h : Sl w a cap l) (k : Fr X w w') (hx : ∀ p, a = Option.some p → l ≠ [] → ¬ X p.block) : Sl w' a cap l := by
  refine ⟨h.byte, h.len, h.most, h.none, ?_⟩
  rcases h.here with h0 | ⟨b, off, e, hb⟩
  · exact .inl h0
  · refine .inr ⟨b, off, e, fun i hi => ?_⟩
    have h1 := hb i hi
    have hlt := World.block_lt_of_cell? w _ h1
    rw [World.cell?_of_block (w := w) (k.block b hlt (hx _ e (fun e0 => by subst e0; simp at hi)))]
    exact h1

/-- Bytes behind a row of one's own. -/
theorem drun_appB (w : World) (ty : TypeId) {v : Value} {n : Nat} {xs : List Value} (ho : w.ownsRow 0 5 1 v n xs) (ga : Option Addr) (gc : Nat) (m : List Nat) (hs : Sl w ga gc m) (hn : n + m.length ≤ 1000000) :
    ∃ v' w', (Builtin.append_ #[53, 53] ty #[v, .slice ga m.length gc]).run Tryz.prog w = .ok v' w' ∧ w'.ownsRow 0 5 1 v' (n + m.length) (xs ++ m.map byteD) ∧ w.grownBy w' v.ownBlock ∧ (v'.ownBlock = v.ownBlock ∨ v'.ownBlock = some w.heap.size) := by
  obtain ⟨i0, hi, hz0, hz1, hz2⟩ := info_c infoB
  by_cases hga : ga = none
  · subst hga
    obtain ⟨rfl, rfl⟩ := hs.none rfl
    refine ⟨v, w, ?_, by simpa using ho, ⟨rfl, rfl, rfl, Nat.le_refl _, fun _ _ _ => rfl⟩, .inl rfl⟩
    rcases ho.2 with ⟨rfl, rfl⟩ | ⟨gg, cap, cur, rfl, -, -, hcap, -, -, -⟩
    · simp [Builtin.append_, run_underlying Tryz.underlying53, sizeOf, typeInfo, hi, Builtin.lenOf, Builtin.firstCells]
    · simp [Builtin.append_, run_underlying Tryz.underlying53, sizeOf, typeInfo, hi, Builtin.lenOf, Builtin.firstCells, storeCells, hcap]
  · obtain ⟨ad, rfl⟩ := Option.ne_none_iff_exists'.1 hga
    have hnews : ∀ j u, (m.map byteD)[j]? = some u → w.cell? (ad.add j) = some u := fun j u hj => by
      rw [List.getElem?_map] at hj
      obtain ⟨x, hx, rfl⟩ := Option.map_eq_some_iff.1 hj
      obtain ⟨hjl, rfl⟩ := List.getElem?_eq_some_iff.1 hx
      obtain ⟨b, off, e, hb⟩ := hs.some (k := j) hjl
      cases e
      have := hb j hjl
      by_cases j0 : j = 0
      · subst j0; simpa [Addr.add, byteD] using this
      · simpa [Addr.add, j0, byteD] using this
    obtain ⟨v', w', hr, h2, h3, h4, h5⟩ := run_append_own_at (P := Tryz.prog) w 0 53 ty 5 i0 (.int .u8 0) 1 1 Tryz.underlying53 hi hz0 hz1 hz2 rfl (by decide) v n xs ho ad m.length gc (m.map byteD) (by simp) hnews (fun u hu => by obtain ⟨n, _, rfl⟩ := List.mem_map.1 hu; rfl) (by unfold maxLen; omega) (by omega) (Nat.zero_le _)
    exact ⟨v', w', hr, h2, h3, h5⟩

theorem dwpList_appB {ops : Array Oper} {rest : List Oper} {o : Oper} {a : Act} {Q : Exit → Act → World → Prop} (w : World) (hgd : o.guard = none) (s x : Operand)
    (ho : o.op = .call { callee := .builtin .append, args := #[s, x], argTypes := #[53, 53] })
    (v : Value) (n : Nat) (xs : List Value) (hsv : a.eval s = v) (hown : w.ownsRow 0 5 1 v n xs) (ga : Option Addr) (gc : Nat) (m : List Nat) (hxv : a.eval x = .slice ga m.length gc) (hs : Sl w ga gc m) (hn : n + m.length ≤ 1000000)
    (h : ∀ v' w', w'.ownsRow 0 5 1 v' (n + m.length) (xs ++ m.map byteD) → w.grownBy w' v.ownBlock → (v'.ownBlock = v.ownBlock ∨ v'.ownBlock = some w.heap.size) → wpList Tryz.prog ops Q rest (a.put o.dst v') w') :
    wpList Tryz.prog ops Q (o :: rest) a w := by
  refine wpList_plain hgd fun K hK => ?_
  obtain ⟨v', w', hr, h2, h3, h4⟩ := drun_appB w o.type hown ga gc m hs hn
  unfold Oper.wp execOp
  simp only [ho, resolve, invoke, builtin, Sem.run_bind, Sem.run_pure, Result.andThen_ok, List.map_toArray, List.map_cons, List.map_nil, hsv, hxv, hr]
  exact hK _ _ (h v' w' h2 h3 h4)

def growF (f : Fl) (m : List Nat) : Fl := { f with bytes := f.bytes ++ m }
def growS (i : Nat) (m : List Nat) (S : DSt) : DSt := { S with F := upd S.F i (growF (S.F i) m), d := { S.d with used := wrap64 (S.d.used + m.length) }, tot := S.tot + m.length }
def appendS (s : ByteArray) (m : List Nat) (S : DSt) : Int × DSt :=
  if S.d.lost then (6, S) else if numD S.Dn s = -1 then (7, S) else if wrap64 (S.d.cap - S.d.used) < (m.length : Int) then (4, S) else
  if (passD S.d).1 = 10 then (10, passS S) else ((passD S.d).1, growS (numD S.Dn s).toNat (if (passD S.d).1 = 6 then m.take (m.length / 2) else m) (passS S))
theorem passD_cases (d : Dk) : (passD d).1 = 0 ∨ (passD d).1 = 6 ∨ (passD d).1 = 10 := by
  unfold passD
  split
  · exact .inr (.inr rfl)
  · split
    · exact .inr (.inl rfl)
    · exact .inl rfl

theorem room_rep {w : World} {B : Nat} {S : DSt} {g : Gh} (h : Rep w B S g) : Calls Tryz.prog 25 #[.pointer (some ⟨B, 0, none⟩)] w fun e w' => e = .returned (.int .i64 (wrap64 (S.d.cap - S.d.used))) ∧ Below w.heap.size w w' ∧ w'.heap = w.heap := by
  refine (room_any h.at').mono ?_
  rintro e w' ⟨rfl, h1, h2⟩
  exact ⟨rfl, ⟨h1.os, h1.tape, h1.output, by rw [h2]; exact Nat.le_refl _, fun k hk => by rw [h2]⟩, h2⟩

/-- A file's bytes have grown. -/
theorem Rep.grow {w w2 : World} {B : Nat} {S : DSt} {g : Gh} (h : Rep w B S g) {b i : Nat} (hi : g.ι b = some i) {v v' : Value} (hv : w.heap[b]? = some (.cells #[v, .int .i64 ((S.F i).safe : Int)] 135 (0, 0))) (m : List Nat) (hm : ∀ n ∈ m, n < 256) (hsz : (S.F i).bytes.length + m.length ≤ 1000000)
    (h1 : w2.ownsRow 0 5 1 v' ((S.F i).bytes.length + m.length) ((S.F i).bytes.map byteD ++ m.map byteD)) (h2 : w.grownBy w2 v.ownBlock) (h3 : v'.ownBlock = v.ownBlock ∨ v'.ownBlock = some w.heap.size) :
    DkAt (w2.setCell ⟨b, 0, none⟩ v') B (g.on S.d) ∧ ∀ w4, DkAt w4 B (g.on { S.d with used := wrap64 (S.d.used + m.length) }) → Only B (w2.setCell ⟨b, 0, none⟩ v') w4 → Did B (growS i m S) g w w4 := by
  obtain ⟨f1, f2, f3, v0, e, ho, hb⟩ := h.files b i hi
  obtain rfl : v0 = v := by
    rw [hv] at hb
    simpa using hb.symm
  have hrow : ∀ r, v0.ownBlock = some r → ∃ cs, w.heap[r]? = some (.cells cs 5 (0, 0)) := fun r hr => (h.files b i hi).bytesBlock (by rw [← e]; exact hr)
  have hvb : ∀ r, v'.ownBlock = some r → r ≠ b := fun r hr e2 => by
    subst e2
    rcases h3 with h3 | h3
    · rw [h3] at hr
      obtain ⟨_, h5⟩ := hrow r hr
      rw [hv] at h5; cases h5
    · rw [h3] at hr
      have := blk_lt hv
      have : w.heap.size = r := Option.some.inj hr
      omega
  have k2 : Fr (fun k => k = b ∨ g.rb i = some k) w w2 := Fr.of_grown h2 fun r hr => .inr (by rw [← e]; exact hr)
  have k3 : Fr (fun k => k = b ∨ g.rb i = some k) w (w2.setCell ⟨b, 0, none⟩ v') := k2.set (fun _ => .inl rfl) _
  have hb2 : w2.heap[b]? = some (.cells #[v0, .int .i64 ((S.F i).safe : Int)] 135 (0, 0)) := by
    rw [h2.block b (blk_lt hv) (fun e2 => by obtain ⟨_, h5⟩ := hrow b e2.symm; rw [hv] at h5; cases h5)]
    exact hv
  have hf' : FileAt (w2.setCell ⟨b, 0, none⟩ v') b v'.ownBlock (growF (S.F i) m) := by
    refine ⟨fun n hn => ?_, ?_, ?_, v', rfl, ⟨?_, ?_⟩, ?_⟩
    · rcases List.mem_append.1 hn with hn | hn
      · exact f1 n hn
      · exact hm n hn
    · show ((S.F i).bytes ++ m).length ≤ 1000000
      rw [List.length_append]; exact hsz
    · show (S.F i).safe ≤ ((S.F i).bytes ++ m).length
      rw [List.length_append]; omega
    · show (((S.F i).bytes ++ m).map byteD).length = ((S.F i).bytes ++ m).length * 1
      simp
    · show _ ∨ _
      have h1' := h1.2
      have el : ((S.F i).bytes ++ m).length = (S.F i).bytes.length + m.length := List.length_append
      rcases h1' with ⟨e1, e2⟩ | ⟨r, cap, cur, e1, e2, e3, e4⟩
      · exact .inl ⟨e1, by show ((S.F i).bytes ++ m).length = 0; rw [el]; exact e2⟩
      · refine .inr ⟨r, cap, cur, ?_, e2, ?_, ?_⟩
        · show v' = Value.slice (some ⟨r, 0, none⟩) ((S.F i).bytes ++ m).length cap
          rw [el]; exact e1
        · rw [heap_setCell_other _ _ _ _ (by show r ≠ b; exact hvb r (by rw [e1]; rfl))]; exact e3
        · show _
          simp only [growF, List.map_append, List.length_append]
          exact e4
    · rw [heap_setCell_same w2 b 0 _ _ _ hb2]; rfl
  obtain ⟨r1, r2⟩ := h.file hi hf' (fun k hk => by
    rcases h3 with h3 | h3
    · rw [h3] at hk; exact .inl (by rw [← e]; exact hk)
    · rw [h3] at hk
      have : w.heap.size = k := Option.some.inj hk
      exact .inr (by omega)) k3
  refine ⟨r1.at', fun w4 hd ho4 => ?_⟩
  have r3 := r1.core (d := { S.d with used := wrap64 (S.d.used + m.length) }) hd ho4
  refine ⟨_, ⟨r3.at', r3.l, r3.wts, r3.wcap, r3.nm, r3.sf, r3.nil, r3.apart, r3.nil0, r3.files, r3.inj, r3.injr, r3.lt, r3.nn, r3.ns⟩, (k3.mono fun j _ hj => ?_).trans (Fr.of_only ho4 (.inl rfl)), r2⟩
  rcases hj with rfl | hj
  · exact .inr (.inr (.inr (.inr (.inl ⟨i, hi⟩))))
  · exact .inr (.inr (.inr (.inr (.inr ⟨b, i, hi, hj⟩))))
end Go.Proofs.YtfgaohilpbocbaaGreatDoor
end

section
namespace Go.Proofs.YtfgaohilpbocbaaGreatDoor
open Go.ChangeShapes Go.WideShapes Go.ChangeAt Go.RowKit Go.Joins
set_option linter.unusedVariables false

set_option maxRecDepth 100000 in
set_option maxHeartbeats 1000000 in
theorem append_any {w : World} {B : Nat} {S : DSt} {g : Gh} (s : ByteArray) (ga : Option Addr) (gc : Nat) (m : List Nat) (h : Rep w B S g) (hs : s.size ≤ maxLen) (hsl : Sl w ga gc m) (hfar : ∀ p, ga = some p → m ≠ [] → ¬ Foot B g p.block) (hsz : ∀ i, (S.F i).bytes.length + m.length ≤ 1000000) :
    Calls Tryz.prog 24 #[.pointer (some ⟨B, 0, none⟩), .string s, .slice ga m.length gc] w fun e w' => e = .returned (.int .i64 (appendS s m S).1) ∧ Did B (appendS s m S).2 g w w' := by
  have H := Lib.hid h
  have HSL := Lib.hid hsl
  have HFAR := Lib.hid hfar
  have HSZ := Lib.hid hsz
  have hlm := hsl.lt
  have hlc : (m.length : Int) ≤ (gc : Int) := by have := hsl.len; omega
  have hgc : gc ≤ 9223372036854775807 := by have := hsl.most; unfold maxLen at this; omega
  have HN := Lib.hid hsl.none
  have hp := power_rep h
  have c2 : w.cell? ⟨B, 2, none⟩ = some (.map g.nm) := by rw [h.at'.cell]; simp [Dk.cells, Gh.on]
  have hroom := room_rep h
  have hnum := h.nm.num hs
  clear h hs hsl hfar hsz
  cases hl : S.d.lost with
  | true =>
    have HV : Hid (appendS s m S = (6, S)) := by show _ = _; unfold appendS; rw [if_pos hl]
    rw [hl] at hp
    simp only [if_true] at hp
    clear hl hroom hnum
    go_enter Tryz.func24, Tryz.ntmps24
    go_wp2_with fail
    (with_reducible refine hp.mono ?_)
    rintro e w1 ⟨rfl, rfl⟩
    go_wp2_with fail
    go_ret
    rw [HV.out]
    exact ⟨rfl, H.out.did⟩
  | false =>
    rw [hl] at hp
    simp only [Bool.false_eq_true, if_false] at hp
    rcases hnum with ⟨hn, hr⟩ | ⟨b, i, hi, hn, hr⟩
    · have HV : Hid (appendS s m S = (7, S)) := by show _ = _; unfold appendS; rw [if_neg (by simp [hl]), if_pos hn]
      have hq := eqp_none w
      clear hl hn
      go_enter Tryz.func24, Tryz.ntmps24
      go_wp2_with fail
      (with_reducible refine hp.mono ?_)
      rintro e w1 ⟨rfl, rfl⟩
      go_wp2_with fail
      go_ret
      rw [HV.out]
      exact ⟨rfl, H.out.did⟩
    · have heq := eqp_some b w
      have hnn : ¬ numD S.Dn s = -1 := by rw [hn]; omega
      by_cases hro : wrap64 (S.d.cap - S.d.used) < (m.length : Int)
      · have HV : Hid (appendS s m S = (4, S)) := by show _ = _; unfold appendS; rw [if_neg (by simp [hl]), if_neg hnn, if_pos hro]
        obtain ⟨R, hR⟩ : ∃ R, wrap64 (S.d.cap - S.d.used) = R := ⟨_, rfl⟩
        rw [hR] at hroom hro
        clear hl hn hnn hi hR
        go_enter Tryz.func24, Tryz.ntmps24
        go_wp2_with fail
        (with_reducible refine hp.mono ?_)
        rintro e w1 ⟨rfl, rfl⟩
        go_wp2_with fail
        (with_reducible refine hroom.mono ?_)
        rintro e w0 ⟨rfl, b0, z0⟩
        have HB0 := Lib.hid b0
        clear b0 z0
        go_wp2_with fail
        go_ret
        rw [HV.out]
        exact ⟨rfl, g, H.out.later HB0.out, Fr.of_below HB0.out, fun _ h => .inl h⟩
      · obtain ⟨R, hR⟩ : ∃ R, wrap64 (S.d.cap - S.d.used) = R := ⟨_, rfl⟩
        have HRO : Hid (¬ wrap64 (S.d.cap - S.d.used) < (m.length : Int)) := hro
        rw [hR] at hroom hro
        clear hR
        have HI := Lib.hid (And.intro hi (And.intro hn (And.intro hl hnn)))
        clear hi hn hl hnn
        go_enter Tryz.func24, Tryz.ntmps24
        go_wp2_with fail
        (with_reducible refine hp.mono ?_)
        rintro e w1 ⟨rfl, rfl⟩
        go_wp2_with fail
        (with_reducible refine hroom.mono ?_)
        rintro e w0 ⟨rfl, b0, z0⟩
        have H0 := Lib.hid (H.out.later b0)
        have HB0 := Lib.hid b0
        have hq := pass_rep H0.out
        clear b0 z0 hp hroom c2 hr heq
        rcases passD_cases S.d with e0 | e0 | e0
        all_goals rw [e0] at hq
        · skip
          skip
          have HV : Hid (appendS s m S = (0, growS i m (passS S))) := by show _ = _; unfold appendS; rw [if_neg (by simp [HI.out.2.2.1]), if_neg HI.out.2.2.2, if_neg (by simpa using HRO.out), if_neg (by rw [e0]; decide), e0, if_neg (by decide), HI.out.2.1]; rfl
          skip
          clear e0
          go_wp2_with fail
          (with_reducible refine hq.mono ?_)
          rintro e w1 ⟨rfl, h1, o1⟩
          have F1 : Hid (Fr (Foot B g) w w1) := (Fr.of_below HB0.out : Fr (Foot B g) w w0).trans (Fr.of_only o1 (.inl rfl))
          have HL1 := Lib.hid (HSL.out.fr F1.out HFAR.out)
          have HLM : Hid (Sl w1 ga gc m) := HL1.out
          have HLN : True := trivial
          have hszi := HSZ.out i
          obtain ⟨_, _, _, v, _, ho, hb⟩ : FileAt w1 b (g.rb i) (S.F i) := h1.files b i HI.out.1
          have k0 : w1.cell? ⟨b, 0, none⟩ = some v := by rw [cell_of_row w1 b 0 _ _ (0, 0) hb]; rfl
          have HO := Lib.hid ho
          have HG : Hid (∀ w2 v', w2.ownsRow 0 5 1 v' ((S.F i).bytes.length + m.length) ((S.F i).bytes.map byteD ++ m.map byteD) → w1.grownBy w2 v.ownBlock → (v'.ownBlock = v.ownBlock ∨ v'.ownBlock = some w1.heap.size) →
              DkAt (w2.setCell ⟨b, 0, none⟩ v') B (g.on (passS S).d) ∧ ∀ w4, DkAt w4 B (g.on { (passS S).d with used := wrap64 ((passS S).d.used + m.length) }) → Only B (w2.setCell ⟨b, 0, none⟩ v') w4 → Did B (growS i m (passS S)) g w1 w4) :=
            fun w2 v' r1 r2 r3 => h1.grow HI.out.1 hb m (fun n hn => HSL.out.byte n hn) (by show (S.F i).bytes.length + m.length ≤ 1000000; omega) r1 r2 r3
          have HB1 : Hid (w1.heap[b]? = some (.cells #[v, .int .i64 ((S.F i).safe : Int)] 135 (0, 0))) := hb
          have HVB : Hid (∀ r, v.ownBlock = some r → r ≠ b) := fun r hr e => by
            rcases ho.2 with ⟨h0, _⟩ | ⟨gr, cap, cur, hv, _, hg, _⟩
            · rw [h0] at hr; cases hr
            · rw [hv] at hr
              have : gr = r := Option.some.inj hr
              rw [this, e, hb] at hg; cases hg
          obtain ⟨a0, c0, rfl, -, -⟩ := own_shape ho
          have hzb : (S.F i).bytes.length + m.length ≤ 1000000 := by omega
          have HZB := Lib.hid hzb
          clear h1 o1 hb ho hq hzb hszi
          go_upto_region 15 with fail
          go_upto_region 16 with (at_builtin; refine dwpList_appB _ rfl _ _ rfl _ (S.F i).bytes.length _ rfl HO.out ga gc m rfl HLM.out HZB.out ?_; intro v' w2 hown2 hgr2 hown3; obtain ⟨a', c', rfl, -, -⟩ := own_shape hown2; have HD := Lib.hid (HG.out w2 _ hown2 hgr2 hown3); have hb2 := (hgr2.block b (blk_lt HB1.out) (fun e => HVB.out b e.symm rfl)).trans HB1.out; have k0' : w2.cell? ⟨b, 0, none⟩ = some (.slice a0 (S.F i).bytes.length c0) := (by rw [cell_of_row w2 b 0 _ _ (0, 0) hb2]; rfl); have f0' := unfrozen_of_block hb2 0; clear hown2 hgr2 hown3 hb2 HG HB1 HVB HO k0)
          have D2 := HD.out.1
          have c1 : (w2.setCell ⟨b, 0, none⟩ (.slice a' ((S.F i).bytes.length + m.length) c')).cell? ⟨B, 1, none⟩ = some (.int .i64 (passS S).d.used) := by rw [D2.cell]; simp [Dk.cells, Gh.on]
          have f1 := D2.loose 1
          have ok := D2.ok
          have DD := Lib.hid (Did.step F1.out (HD.out.2 _ (D2.set 1 (.int .i64 (wrap64 ((passS S).d.used + (m.length : Int)))) ⟨ok.cap1, ok.cap2, (wrap_range _).1, (wrap_range _).2, ok.fl1, ok.fl2, ok.gl1, ok.gl2, ok.len⟩ (by simp [Dk.cells, Gh.on])) (Only.set _ _ _ _)))
          skip
          clear D2 ok HD
          go_wp2_with fail
          go_ret
          rw [HV.out]
          exact ⟨rfl, DD.out⟩
        · skip
          obtain ⟨mm, hmm⟩ : ∃ mm, m.take (m.length / 2) = mm := ⟨_, rfl⟩
          have HV : Hid (appendS s m S = (6, growS i mm (passS S))) := by show _ = _; unfold appendS; rw [if_neg (by simp [HI.out.2.2.1]), if_neg HI.out.2.2.2, if_neg (by simpa using HRO.out), if_neg (by rw [e0]; decide), e0, if_pos rfl, HI.out.2.1, hmm]; rfl
          have HMM := Lib.hid hmm; clear hmm
          clear e0
          go_wp2_with fail
          (with_reducible refine hq.mono ?_)
          rintro e w1 ⟨rfl, h1, o1⟩
          have F1 : Hid (Fr (Foot B g) w w1) := (Fr.of_below HB0.out : Fr (Foot B g) w w0).trans (Fr.of_only o1 (.inl rfl))
          have HL1 := Lib.hid (HSL.out.fr F1.out HFAR.out)
          have HLM : Hid (Sl w1 ga gc mm) := by show Sl w1 ga gc mm; rw [← HMM.out]; exact HL1.out.dtake _
          have HLN : Hid (mm.length = m.length / 2) := by show _ = _; rw [← HMM.out, List.length_take]; omega
          have hszi := HSZ.out i
          obtain ⟨_, _, _, v, _, ho, hb⟩ : FileAt w1 b (g.rb i) (S.F i) := h1.files b i HI.out.1
          have k0 : w1.cell? ⟨b, 0, none⟩ = some v := by rw [cell_of_row w1 b 0 _ _ (0, 0) hb]; rfl
          have HO := Lib.hid ho
          have HG : Hid (∀ w2 v', w2.ownsRow 0 5 1 v' ((S.F i).bytes.length + mm.length) ((S.F i).bytes.map byteD ++ mm.map byteD) → w1.grownBy w2 v.ownBlock → (v'.ownBlock = v.ownBlock ∨ v'.ownBlock = some w1.heap.size) →
              DkAt (w2.setCell ⟨b, 0, none⟩ v') B (g.on (passS S).d) ∧ ∀ w4, DkAt w4 B (g.on { (passS S).d with used := wrap64 ((passS S).d.used + mm.length) }) → Only B (w2.setCell ⟨b, 0, none⟩ v') w4 → Did B (growS i mm (passS S)) g w1 w4) :=
            fun w2 v' r1 r2 r3 => h1.grow HI.out.1 hb mm (fun n hn => HSL.out.byte n (List.mem_of_mem_take (by rw [HMM.out]; exact hn))) (by show (S.F i).bytes.length + mm.length ≤ 1000000; have := HLN.out; omega) r1 r2 r3
          have HB1 : Hid (w1.heap[b]? = some (.cells #[v, .int .i64 ((S.F i).safe : Int)] 135 (0, 0))) := hb
          have HVB : Hid (∀ r, v.ownBlock = some r → r ≠ b) := fun r hr e => by
            rcases ho.2 with ⟨h0, _⟩ | ⟨gr, cap, cur, hv, _, hg, _⟩
            · rw [h0] at hr; cases hr
            · rw [hv] at hr
              have : gr = r := Option.some.inj hr
              rw [this, e, hb] at hg; cases hg
          obtain ⟨a0, c0, rfl, -, -⟩ := own_shape ho
          have hzb : (S.F i).bytes.length + mm.length ≤ 1000000 := by have := HLN.out; omega
          have HZB := Lib.hid hzb
          clear h1 o1 hb ho hq hzb hszi
          go_upto_region 15 with fail
          go_upto_region 16 with (at_builtin; refine dwpList_appB _ rfl _ _ rfl _ (S.F i).bytes.length _ rfl HO.out ga gc mm (by rw [HLN.out]; rfl) HLM.out HZB.out ?_; intro v' w2 hown2 hgr2 hown3; obtain ⟨a', c', rfl, -, -⟩ := own_shape hown2; have HD := Lib.hid (HG.out w2 _ hown2 hgr2 hown3); have hb2 := (hgr2.block b (blk_lt HB1.out) (fun e => HVB.out b e.symm rfl)).trans HB1.out; have k0' : w2.cell? ⟨b, 0, none⟩ = some (.slice a0 (S.F i).bytes.length c0) := (by rw [cell_of_row w2 b 0 _ _ (0, 0) hb2]; rfl); have f0' := unfrozen_of_block hb2 0; clear hown2 hgr2 hown3 hb2 HG HB1 HVB HO k0)
          have D2 := HD.out.1
          have c1 : (w2.setCell ⟨b, 0, none⟩ (.slice a' ((S.F i).bytes.length + mm.length) c')).cell? ⟨B, 1, none⟩ = some (.int .i64 (passS S).d.used) := by rw [D2.cell]; simp [Dk.cells, Gh.on]
          have f1 := D2.loose 1
          have ok := D2.ok
          have DD := Lib.hid (Did.step F1.out (HD.out.2 _ (D2.set 1 (.int .i64 (wrap64 ((passS S).d.used + (mm.length : Int)))) ⟨ok.cap1, ok.cap2, (wrap_range _).1, (wrap_range _).2, ok.fl1, ok.fl2, ok.gl1, ok.gl2, ok.len⟩ (by simp [Dk.cells, Gh.on])) (Only.set _ _ _ _)))
          rw [show (mm.length : Int) = (m.length : Int) / 2 by rw [HLN.out]; simp] at DD
          clear D2 ok HD
          go_wp2_with fail
          go_ret
          rw [HV.out]
          exact ⟨rfl, DD.out⟩
        · have HV : Hid (appendS s m S = (10, passS S)) := by show _ = _; unfold appendS; rw [if_neg (by simp [HI.out.2.2.1]), if_neg HI.out.2.2.2, if_neg (by simpa using HRO.out), if_pos e0]
          clear e0
          go_wp2_with fail
          (with_reducible refine hq.mono ?_)
          rintro e w1 ⟨rfl, h1, o1⟩
          have D1 : Hid (Did B (passS S) g w w1) := ⟨g, h1, (Fr.of_below HB0.out : Fr (Foot B g) w w0).trans (Fr.of_only o1 (.inl rfl)), fun _ h => .inl h⟩
          clear h1 o1
          go_wp2_with fail
          go_ret
          rw [HV.out]
          exact ⟨rfl, D1.out⟩
end Go.Proofs.YtfgaohilpbocbaaGreatDoor
end

section
namespace Go.Proofs.YtfgaohilpbocbaaGreatDoor
open Go.Shelf Go.Proofs
def lay_keysM_ren : Go.Shelf.Ren := ⟨fun | 7 => 130 | 10 => 172 | n => n, fun | 23 => 125 | 26 => 9 | 3 => 132 | 28 => 227 | 0 => 0 | 27 => 226 | 33 => 123 | 4 => 4 | n => n, fun | n => n⟩
theorem lay_keysM : Go.Proofs.SlLaysZ.n7 Tryz.prog lay_keysM_ren := {
  mixed := by kernel_rfl
  f7 := ⟨Tryz.f130.name, by decide, Tryz.func130.trans (congrArg some (by kernel_rfl))⟩
  f10 := ⟨Tryz.f172.name, by decide, Tryz.func172.trans (congrArg some (by kernel_rfl))⟩
  t0 := Tryz.underlying0
  a0 := Tryz.isAgg0
  z0 := Tryz.sizeOf0
  v0 := Tryz.zeroValue0
  t4 := Tryz.underlying4
  a4 := Tryz.isAgg4
  z4 := Tryz.sizeOf4
  v4 := Tryz.zeroValue4
  t23 := Tryz.underlying125
  a23 := Tryz.isAgg125
  z23 := Tryz.sizeOf125
  v23 := Tryz.zeroValue125
  t26 := Tryz.underlying9
  a26 := Tryz.isAgg9
  z26 := Tryz.sizeOf9
  v26 := Tryz.zeroValue9
  t27 := Tryz.underlying226
  a27 := Tryz.isAgg226
  z27 := Tryz.sizeOf226
  v27 := Tryz.zeroValue226
  t28 := Tryz.underlying227
  a28 := Tryz.isAgg227
  z28 := Tryz.sizeOf227
  v28 := Tryz.zeroValue227
  t33 := Tryz.underlying123
  a33 := Tryz.isAgg123
  z33 := Tryz.sizeOf123
  v33 := Tryz.zeroValue123 }
def lay_sortedM_ren : Go.Shelf.Ren := ⟨fun | 6 => 129 | 8 => 170 | 9 => 171 | 11 => 200 | 13 => 115 | 12 => 201 | 23 => 157 | 24 => 158 | 14 => 215 | 15 => 216 | 16 => 217 | 17 => 218 | 18 => 219 | 19 => 220 | 20 => 221 | 21 => 222 | 22 => 223 | 25 => 233 | 26 => 192 | 27 => 193 | 28 => 234 | 29 => 235 | 30 => 236 | 31 => 244 | n => n, fun | 26 => 9 | 28 => 227 | 24 => 32 | 0 => 0 | 3 => 3 | 37 => 173 | 48 => 49 | 50 => 172 | 4 => 4 | 40 => 256 | 39 => 255 | 45 => 119 | 5 => 5 | 9 => 9 | 51 => 286 | 55 => 290 | 57 => 303 | 58 => 47 | 33 => 123 | n => n, fun | n => n⟩
theorem lay_sortedM : Go.Proofs.SlLaysZ.n6 Tryz.prog lay_sortedM_ren := {
  mixed := by kernel_rfl
  f6 := ⟨Tryz.f129.name, by decide, Tryz.func129.trans (congrArg some (by kernel_rfl))⟩
  f8 := ⟨Tryz.f170.name, by decide, Tryz.func170.trans (congrArg some (by kernel_rfl))⟩
  f11 := ⟨Tryz.f200.name, by decide, Tryz.func200.trans (congrArg some (by kernel_rfl))⟩
  t0 := Tryz.underlying0
  a0 := Tryz.isAgg0
  z0 := Tryz.sizeOf0
  v0 := Tryz.zeroValue0
  t24 := Tryz.underlying32
  a24 := Tryz.isAgg32
  z24 := Tryz.sizeOf32
  v24 := Tryz.zeroValue32
  t26 := Tryz.underlying9
  a26 := Tryz.isAgg9
  z26 := Tryz.sizeOf9
  v26 := Tryz.zeroValue9
  t28 := Tryz.underlying227
  a28 := Tryz.isAgg227
  z28 := Tryz.sizeOf227
  v28 := Tryz.zeroValue227
  i26 := by kernel_rfl }
def lay_sortM_ren : Go.Shelf.Ren := ⟨fun | 6 => 171 | 8 => 115 | 9 => 201 | 19 => 157 | 20 => 158 | 21 => 215 | 22 => 216 | 23 => 217 | 24 => 218 | 25 => 219 | 26 => 220 | 27 => 221 | 28 => 222 | 29 => 223 | 36 => 233 | 31 => 192 | 32 => 193 | 37 => 234 | 38 => 235 | 39 => 236 | 41 => 244 | n => n, fun | 27 => 32 | 29 => 9 | 3 => 3 | 32 => 173 | 26 => 32 | 0 => 0 | 44 => 49 | 46 => 172 | 4 => 4 | 36 => 256 | 35 => 255 | 41 => 119 | 5 => 5 | 9 => 9 | 53 => 286 | 57 => 290 | 63 => 303 | 64 => 47 | n => n, fun | n => n⟩
theorem lay_sortM : Go.Proofs.SlLaysM.n6 Tryz.prog lay_sortM_ren := {
  mixed := by kernel_rfl
  f6 := ⟨Tryz.f171.name, by decide, Tryz.func171.trans (congrArg some (by kernel_rfl))⟩
  f8 := Tryz.func115.trans (congrArg some (by kernel_rfl))
  f9 := ⟨Tryz.f201.name, by decide, Tryz.func201.trans (congrArg some (by kernel_rfl))⟩
  f19 := Tryz.func157.trans (congrArg some (by kernel_rfl))
  f20 := Tryz.func158.trans (congrArg some (by kernel_rfl))
  f21 := ⟨Tryz.f215.name, by decide, Tryz.func215.trans (congrArg some (by kernel_rfl))⟩
  f22 := ⟨Tryz.f216.name, by decide, Tryz.func216.trans (congrArg some (by kernel_rfl))⟩
  f23 := ⟨Tryz.f217.name, by decide, Tryz.func217.trans (congrArg some (by kernel_rfl))⟩
  f24 := ⟨Tryz.f218.name, by decide, Tryz.func218.trans (congrArg some (by kernel_rfl))⟩
  f25 := ⟨Tryz.f219.name, by decide, Tryz.func219.trans (congrArg some (by kernel_rfl))⟩
  f26 := ⟨Tryz.f220.name, by decide, Tryz.func220.trans (congrArg some (by kernel_rfl))⟩
  f27 := ⟨Tryz.f221.name, by decide, Tryz.func221.trans (congrArg some (by kernel_rfl))⟩
  f28 := ⟨Tryz.f222.name, by decide, Tryz.func222.trans (congrArg some (by kernel_rfl))⟩
  f29 := ⟨Tryz.f223.name, by decide, Tryz.func223.trans (congrArg some (by kernel_rfl))⟩
  f31 := Tryz.func192.trans (congrArg some (by kernel_rfl))
  f32 := Tryz.func193.trans (congrArg some (by kernel_rfl))
  f36 := ⟨Tryz.f233.name, by decide, Tryz.func233.trans (congrArg some (by kernel_rfl))⟩
  f37 := ⟨Tryz.f234.name, by decide, Tryz.func234.trans (congrArg some (by kernel_rfl))⟩
  f38 := ⟨Tryz.f235.name, by decide, Tryz.func235.trans (congrArg some (by kernel_rfl))⟩
  f39 := ⟨Tryz.f236.name, by decide, Tryz.func236.trans (congrArg some (by kernel_rfl))⟩
  f41 := ⟨Tryz.f244.name, by decide, Tryz.func244.trans (congrArg some (by kernel_rfl))⟩
  t0 := Tryz.underlying0
  a0 := Tryz.isAgg0
  z0 := Tryz.sizeOf0
  v0 := Tryz.zeroValue0
  t3 := Tryz.underlying3
  a3 := Tryz.isAgg3
  z3 := Tryz.sizeOf3
  v3 := Tryz.zeroValue3
  t4 := Tryz.underlying4
  a4 := Tryz.isAgg4
  z4 := Tryz.sizeOf4
  v4 := Tryz.zeroValue4
  t5 := Tryz.underlying5
  a5 := Tryz.isAgg5
  z5 := Tryz.sizeOf5
  v5 := Tryz.zeroValue5
  t9 := Tryz.underlying9
  a9 := Tryz.isAgg9
  z9 := Tryz.sizeOf9
  v9 := Tryz.zeroValue9
  t26 := Tryz.underlying32
  a26 := Tryz.isAgg32
  z26 := Tryz.sizeOf32
  v26 := Tryz.zeroValue32
  t27 := Tryz.underlying32
  a27 := Tryz.isAgg32
  z27 := Tryz.sizeOf32
  v27 := Tryz.zeroValue32
  t29 := Tryz.underlying9
  a29 := Tryz.isAgg9
  z29 := Tryz.sizeOf9
  v29 := Tryz.zeroValue9
  t32 := Tryz.underlying173
  a32 := Tryz.isAgg173
  z32 := Tryz.sizeOf173
  v32 := Tryz.zeroValue173
  t35 := Tryz.underlying255
  a35 := Tryz.isAgg255
  z35 := Tryz.sizeOf255
  v35 := Tryz.zeroValue255
  t36 := Tryz.underlying256
  a36 := Tryz.isAgg256
  z36 := Tryz.sizeOf256
  v36 := Tryz.zeroValue256
  t41 := Tryz.underlying119
  a41 := Tryz.isAgg119
  z41 := Tryz.sizeOf119
  v41 := Tryz.zeroValue119
  t44 := Tryz.underlying49
  a44 := Tryz.isAgg49
  z44 := Tryz.sizeOf49
  v44 := Tryz.zeroValue49
  t46 := Tryz.underlying172
  a46 := Tryz.isAgg172
  z46 := Tryz.sizeOf172
  v46 := Tryz.zeroValue172
  t53 := Tryz.underlying286
  a53 := Tryz.isAgg286
  z53 := Tryz.sizeOf286
  v53 := Tryz.zeroValue286
  t57 := Tryz.underlying290
  a57 := Tryz.isAgg290
  z57 := Tryz.sizeOf290
  v57 := Tryz.zeroValue290
  t63 := Tryz.underlying303
  a63 := Tryz.isAgg303
  z63 := Tryz.sizeOf303
  v63 := Tryz.zeroValue303
  t64 := Tryz.underlying47
  a64 := Tryz.isAgg47
  z64 := Tryz.sizeOf47
  v64 := Tryz.zeroValue47 }
end Go.Proofs.YtfgaohilpbocbaaGreatDoor
end

section
namespace Go.Proofs.YtfgaohilpbocbaaGreatDoor
open Go.ChangeShapes Go.WideShapes Go.ChangeAt Go.RowKit Go.Joins Go.Shelf Go.Maps Go.Sort
set_option linter.unusedVariables false

/-- The names of a table, rising. -/
def namesD (D : DM) : List (List UInt8) := (strKeys D).mergeSort leB

theorem sorts_lay (m : Nat) : AnyZ.SortsIn Tryz.prog lay_sortedM_ren Fence.wide m :=
  ⟨fun blk off cap ss W hH hblk hsz => callsIn_wide.2 (AnyM.slices_Sort_string lay_sortM blk off cap ss W hH hblk hsz),
   fun p cap W => callsIn_wide.2 (AnyM.slices_Sort_string_none lay_sortM p cap W)⟩
theorem keys_lay (mb : Option Nat) (W : World) : CallsIn Fence.wide 5 Tryz.prog 130 #[.map mb] W fun e w' => e = .returned (.func (.func 172) #[] #[.pointer (some ⟨W.heap.size, 0, none⟩)]) ∧ w' = W.alloc (.cells #[.map mb] 125) :=
  AnyZ.keys_in lay_keysM Fence.wide 5 trivial rfl mb W
set_option maxHeartbeats 1000000 in
theorem sorted_lay {H : Type} (b nn : Nat) (D0 : DataW H) (R : Value → Option (DataW H × List MemPlace)) (w : World) (hown : w.ownsMap Tryz.prog 9 R b nn D0) (hmax : Maps.size D0 ≤ maxLen) (hbytes : Maps.size D0 * 16 ≤ 140737488355328) :
    CallsIn Fence.wide 5 Tryz.prog 129 #[.func (.func 172) #[] #[.pointer (some ⟨w.heap.size, 0, none⟩)]] (w.alloc (.cells #[.map (some b)] 125)) fun e w' => ∃ (v : Value) (ss : List (List UInt8)), e = .returned v ∧ ss.Perm (strKeys D0) ∧
      w'.ownsRow (w.alloc (.cells #[.map (some b)] 125)).heap.size 9 1 v ss.length ((ss.mergeSort (fun x y => decide (x ≤ y))).map encStr) ∧ (v = .slice none 0 0 ↔ ss = []) ∧ Below (w.alloc (.cells #[.map (some b)] 125)).heap.size (w.alloc (.cells #[.map (some b)] 125)) w' := by
  have hbl := hown.lt
  have hseq : SeqGives Fence.wide 2 Tryz.prog 172 #[.pointer (some ⟨w.heap.size, 0, none⟩)] encStr (fun ss => ss.Perm (strKeys D0)) (Maps.size D0) (w.alloc (.cells #[.map (some b)] 125)) :=
    AnyZ.keys_gives (ρ := lay_keysM_ren) { lay_keysM with } Fence.wide _ trivial rfl (by omega) w.heap.size b nn D0 _ (by simp) (by simp) (by
      obtain ⟨es, clock, hb, Ft, hs, hD⟩ := hown
      exact ⟨es, clock, (Below.heap_alloc _ _ b hbl).trans hb, Ft, hs, hD⟩)
  exact AnyZ.sorted_in lay_sortedM Fence.wide 5 trivial trivial trivial trivial rfl (by omega) (sorts_lay _) (enters_of Tryz.func171 (by kernel_rfl) rfl) 172 #[.pointer (some ⟨w.heap.size, 0, none⟩)] trivial (enters_of Tryz.func172 (by kernel_rfl) rfl) _ _ hmax hbytes _ hseq
set_option maxHeartbeats 1000000 in
theorem sorted_nil_lay (w : World) :
    CallsIn Fence.wide 5 Tryz.prog 129 #[.func (.func 172) #[] #[.pointer (some ⟨w.heap.size, 0, none⟩)]] (w.alloc (.cells #[.map none] 125)) fun e w' => ∃ (v : Value) (ss : List (List UInt8)), e = .returned v ∧ ss = [] ∧
      w'.ownsRow (w.alloc (.cells #[.map none] 125)).heap.size 9 1 v ss.length ((ss.mergeSort (fun x y => decide (x ≤ y))).map encStr) ∧ (v = .slice none 0 0 ↔ ss = []) ∧ Below (w.alloc (.cells #[.map none] 125)).heap.size (w.alloc (.cells #[.map none] 125)) w' := by
  have hseq : SeqGives Fence.wide 2 Tryz.prog 172 #[.pointer (some ⟨w.heap.size, 0, none⟩)] encStr (fun ss : List (List UInt8) => ss = []) 0 (w.alloc (.cells #[.map none] 125)) :=
    AnyZ.keys_gives_nil (ρ := lay_keysM_ren) { lay_keysM with } Fence.wide _ trivial rfl w.heap.size _ (by simp) (by simp)
  exact AnyZ.sorted_in lay_sortedM Fence.wide 5 trivial trivial trivial trivial rfl (by omega) (sorts_lay _) (enters_of Tryz.func171 (by kernel_rfl) rfl) 172 #[.pointer (some ⟨w.heap.size, 0, none⟩)] trivial (enters_of Tryz.func172 (by kernel_rfl) rfl) _ 0 (Nat.zero_le _) (by omega) _ hseq

/-- A slice of names, in new memory. -/
structure NewN (w0 w' : World) (v : Value) (ns : List (List UInt8)) : Prop where
  row : w'.ownsRow 0 9 1 v ns.length (ns.map encStr)
  new : ∀ k, v.ownBlock = some k → w0.heap.size ≤ k
  low : Below w0.heap.size w0 w'
theorem row_new {w : World} {B e s n : Nat} {v : Value} {xs : List Value} (h : w.ownsRow B e s v n xs) : w.ownsRow 0 e s v n xs ∧ ∀ k, v.ownBlock = some k → B ≤ k := by
  refine ⟨⟨h.1, ?_⟩, fun k hk => ?_⟩
  · rcases h.2 with h0 | ⟨g, cap, cur, hv, hg0, hg, r⟩
    · exact .inl h0
    · exact .inr ⟨g, cap, cur, hv, Nat.zero_le _, hg, r⟩
  · rcases h.2 with ⟨h0, _⟩ | ⟨g, cap, cur, hv, hg0, hg, r⟩
    · rw [h0] at hk; cases hk
    · rw [hv] at hk
      have : g = k := Option.some.inj hk
      omega

theorem names_perm {D : DM} {ss : List (List UInt8)} (h : ss.Perm (strKeys D)) : ss.mergeSort (fun x y => decide (x ≤ y)) = namesD D := mergeSort_of_perm h
theorem sorted_any {ι : Nat → Option Nat} {w : World} {t : Option Nat} {n : Nat} {D : DM} (h : Tab ι w t n D) (hn : n ≤ 1000000) :
    Calls Tryz.prog 95 #[.map t] w fun e w' => ∃ v, e = .returned v ∧ NewN w w' v (namesD D) := by
  refine (callsIn_wide (n := 6)).1 ?_
  have hfK : Fence.wide.fn 130 := trivial
  have hfS : Fence.wide.fn 129 := trivial
  have hpost : ∀ (w' : World) (v : Value) (ss : List (List UInt8)), ss.Perm (strKeys D) → w'.ownsRow (w.alloc (.cells #[.map t] 125)).heap.size 9 1 v ss.length ((ss.mergeSort (fun x y => decide (x ≤ y))).map encStr) → Below (w.alloc (.cells #[.map t] 125)).heap.size (w.alloc (.cells #[.map t] 125)) w' → NewN w w' v (namesD D) := fun w' v ss hS hrow hb => by
    rw [names_perm hS, show ss.length = (namesD D).length by rw [hS.length_eq]; unfold namesD; rw [List.length_mergeSort]] at hrow
    obtain ⟨h1, h2⟩ := row_new hrow
    exact ⟨h1, fun k hk => by have := h2 k hk; simp at this; omega, ((Below.refl _ w).alloc (Nat.le_refl _) _).trans (hb.mono (by simp))⟩
  rcases h with ⟨rfl, rfl⟩ | ⟨b, rfl, hown⟩
  · have hs := sorted_nil_lay w
    refine callsIn_of_wp Tryz.func95 rfl trivial ?_ rfl
    simp only [Tryz.ntmps95, List.size_toArray, List.length_cons, List.length_nil, Nat.reduceAdd, Nat.reduceSub, Array.replicate_succ, Array.replicate_zero, List.push_toArray, List.append_toArray, List.nil_append, List.cons_append]
    gi_wp2_with (first
      | (gi_at_call 130; refine (keys_lay _ _).mono ?_; rintro e w' ⟨rfl, rfl⟩)
      | (gi_at_call 129; refine hs.mono ?_; rintro e w' ⟨v, ss, rfl, rfl, hrow, hnil, hb⟩))
    go_ret
    exact ⟨_, rfl, hpost _ _ [] (List.Perm.refl _) hrow hb⟩
  · have hsz := hown.size_le
    have hs := sorted_lay b n D (fileR ι) w hown (by unfold maxLen; omega) (by omega)
    refine callsIn_of_wp Tryz.func95 rfl trivial ?_ rfl
    simp only [Tryz.ntmps95, List.size_toArray, List.length_cons, List.length_nil, Nat.reduceAdd, Nat.reduceSub, Array.replicate_succ, Array.replicate_zero, List.push_toArray, List.append_toArray, List.nil_append, List.cons_append]
    gi_wp2_with (first
      | (gi_at_call 130; refine (keys_lay _ _).mono ?_; rintro e w' ⟨rfl, rfl⟩)
      | (gi_at_call 129; refine hs.mono ?_; rintro e w' ⟨v, ss, rfl, hS, hrow, hnil, hb⟩))
    go_ret
    exact ⟨_, rfl, hpost _ _ ss hS hrow hb⟩

end Go.Proofs.YtfgaohilpbocbaaGreatDoor
end

section
namespace Go.Proofs.YtfgaohilpbocbaaGreatDoor
open Go.ChangeShapes Go.WideShapes Go.ChangeAt Go.RowKit Go.Joins
set_option linter.unusedVariables false

def readL (s : ByteArray) (S : DSt) : List Nat := if (readS s S).1 = 0 then (S.F (numD S.Dn s).toNat).bytes else []
theorem own_sl {w : World} {v : Value} {l : List Nat} (h : w.ownsRow 0 5 1 v l.length (l.map byteD)) (hb : ∀ n ∈ l, n < 256) : ∃ a cap, v = .slice a l.length cap ∧ Sl w a cap l := by
  rcases h.2 with ⟨rfl, h0⟩ | ⟨g, cap, cur, rfl, -, hg, h1, h2, h3, h4⟩
  · have : l = [] := List.eq_nil_of_length_eq_zero h0
    subst this
    exact ⟨none, 0, rfl, nil_sl w⟩
  · refine ⟨_, cap, rfl, hb, h1, h2, fun e => (by cases e), .inr ⟨g, 0, rfl, fun i hi => ?_⟩⟩
    have := h.cells (g := g) rfl i (byteD l[i]) (by simp [hi])
    by_cases i0 : i = 0
    · subst i0; simpa [Addr.add, byteD] using this
    · simpa [Addr.add, i0, byteD] using this
/-- What Read gives, as a list of bytes. -/
theorem read_sl {w w' : World} {B : Nat} {s : ByteArray} {S : DSt} {g : Gh} {e : Ending} (hI : Inv S) (h : DReadPost B s S g w e w') (hB : ∀ k, Foot B g k → w.heap.size ≤ k ∨ True) :
    ∃ a cap, e = .returned (.tuple #[.slice a (readL s S).length cap, .int .i64 (readS s S).1]) ∧ Sl w' a cap (readL s S) ∧ Rep w' B (readS s S).2 g ∧ Fr (fun j => j = B) w w' := by
  obtain ⟨v, w1, rfl, h1, h2, h3, h4⟩ := h
  have hf : Fr (fun j => j = B) w w' := (Fr.of_only (X := fun j => j = B) h2 rfl).later h3
  rcases h4 with ⟨h5, rfl⟩ | ⟨h5, h6⟩
  · have e : readL s S = [] := by unfold readL; rw [if_neg h5]
    rw [e]
    exact ⟨none, 0, rfl, nil_sl w', h1, hf⟩
  · have e : readL s S = (S.F (numD S.Dn s).toNat).bytes := by unfold readL; rw [if_pos h5]
    rw [e]
    obtain ⟨a, cap, rfl, hs⟩ := own_sl h6 (hI.byte _)
    exact ⟨a, cap, rfl, hs, h1, hf⟩

theorem names_rep {w : World} {B : Nat} {S : DSt} {g : Gh} (h : Rep w B S g) (hst : S.steps ≤ 900) :
    Calls Tryz.prog 54 #[.pointer (some ⟨B, 0, none⟩)] w fun e w' => ∃ v, e = .returned v ∧ NewN w w' v (namesD S.Dn) := by
  have c2 : w.cell? ⟨B, 2, none⟩ = some (.map g.nm) := by rw [h.at'.cell]; simp [Dk.cells, Gh.on]
  have hs := sorted_any h.nm (by have := h.nn; omega)
  clear h hst
  go_enter Tryz.func54, Tryz.ntmps54
  go_wp2_with fail
  (with_reducible refine hs.mono ?_)
  rintro e w1 ⟨v, rfl, N⟩
  have HN := Lib.hid N
  clear hs N
  go_wp2_with fail
  go_ret
  exact ⟨_, rfl, HN.out⟩

/-- A disk just made. -/
def newD (cap : Int) : Dk := ⟨cap, 0, none, none, none, 0, 0, false, 0, false, 0, false⟩
def newSt (cap : Int) : DSt := ⟨newD cap, .map [], [], fun _ => ⟨[], 0⟩, 0, 0, 0⟩
def newGh : Gh := ⟨none, none, none, 0, [], fun _ => none, fun _ => none, 0, 0⟩
theorem newInv (cap : Int) : Inv (newSt cap) :=
  ⟨.nil OkD.empty, fun t i h => (by have := At.has h; cases this), fun c h => (by cases h), fun c h => (by cases h), List.Pairwise.nil, Nat.le_refl _, fun _ => Nat.le_refl _, fun _ => Nat.le_refl _, fun _ n h => (by cases h)⟩
theorem newRep {w : World} {B : Nat} {cap : Int} (h : DkAt w B (newGh.on (newD cap))) : Rep w B (newSt cap) newGh :=
  ⟨h, rfl, ⟨World.ownsRow_nil _ _ _ _, rfl, fun x hx => (by cases hx), fun x hx => (by cases hx)⟩, ⟨Nat.zero_le _, Nat.le_refl _⟩, .inl ⟨rfl, rfl⟩, .inl ⟨rfl, rfl⟩, Iff.rfl, fun h => absurd rfl h, fun _ => rfl, fun b i h => (by cases h), fun b b' i h => (by cases h), fun b b' i j r h => (by cases h), fun b i h => (by cases h), Nat.le_refl _, Nat.le_refl _⟩
theorem newFoot {B k : Nat} (h : Foot B newGh k) : k = B := by
  rcases h with e | e | e | e | ⟨i, e⟩ | ⟨b, i, e, _⟩
  · exact e
  all_goals cases e

theorem new_bad (cap : Int) (hc : cap < 0 ∨ 1048576 < cap) (w : World) : Calls Tryz.prog 22 #[.int .i64 cap] w fun e w' => e = .returned (.tuple #[.pointer none, .int .i64 1]) ∧ w = w' := by
  rcases hc with hc | hc
  · go_enter Tryz.func22, Tryz.ntmps22
    go_wp2_with fail
    go_ret2
    exact ⟨rfl, rfl⟩
  · have h0 : ¬ cap < 0 := by omega
    go_enter Tryz.func22, Tryz.ntmps22
    go_wp2_with fail
    go_ret2
    exact ⟨rfl, rfl⟩
theorem new_good (cap : Int) (h0 : 0 ≤ cap) (h1 : cap ≤ 1048576) (w : World) : Calls Tryz.prog 22 #[.int .i64 cap] w fun e w' => e = .returned (.tuple #[.pointer (some ⟨w.heap.size, 0, none⟩), .int .i64 0]) ∧ Rep w' w.heap.size (newSt cap) newGh ∧ Below w.heap.size w w' ∧ w'.heap.size = w.heap.size + 1 := by
  have h0' : ¬ cap < 0 := by omega
  have h1' : ¬ 1048576 < cap := by omega
  go_enter Tryz.func22, Tryz.ntmps22
  go_wp2_with fail
  go_ret2
  refine ⟨rfl, newRep ⟨?_, ?_⟩, (Below.refl _ _).alloc (Nat.le_refl _) _, by simp⟩
  · exact heap_alloc_new w _
  · exact ⟨by show (-9223372036854775808 : Int) ≤ cap; omega, by show cap ≤ (9223372036854775807 : Int); omega, by show (-9223372036854775808 : Int) ≤ 0; decide, by show (0 : Int) ≤ 9223372036854775807; decide, Int.le_refl _, by show (0 : Int) ≤ 9223372036854775807; decide, Int.le_refl _, by show (0 : Int) ≤ 9223372036854775807; decide, Nat.zero_le _⟩
end Go.Proofs.YtfgaohilpbocbaaGreatDoor
end

section
namespace Go.Proofs.YtfgaohilpbocbaaGreatDoor
open Go.ChangeShapes Go.WideShapes Go.ChangeAt Go.RowKit Go.Joins Go.Maps Go.Sort
set_option linter.unusedVariables false

/-- The name of file i: one letter. -/
def nmL (i : Nat) : ByteArray := ⟨#[UInt8.ofNat (97 + i)]⟩
def chL (i : Nat) : Chg := ⟨(i : Int), ⟨#[]⟩, nmL i⟩
def chsL (k : Nat) : List Chg := (List.range k).map chL
/-- The disk behind k files. -/
structure LdS (L : List (List Nat)) (k : Nat) (S : DSt) : Prop where
  lost : S.d.lost = false
  gs : S.d.gs = false
  fs : S.d.fs = false
  cap : S.d.cap = 1048576
  used : S.d.used = (((L.take k).map List.length).sum : Nat)
  ds : S.Ds = .map []
  l : S.l = chsL k
  next : S.next = k
  steps : S.steps = k
  files : ∀ i (h : i < k) (h' : i < L.length), (S.F i).bytes = L[i]
  few : ∀ i, (S.F i).bytes.length ≤ 2000
theorem LdS.new (L : List (List Nat)) : LdS L 0 (newSt 1048576) :=
  ⟨rfl, rfl, rfl, rfl, rfl, rfl, rfl, rfl, rfl, fun i h => (by omega), fun i => (by simp [newSt])⟩
/-- The tables of up to eight files. -/
def tabL (k : Nat) : DM := didAll (.map []) (chsL k)
theorem LdS.dn {L : List (List Nat)} {k : Nat} {S : DSt} (h : LdS L k S) : S.Dn = tabL k := by
  unfold DSt.Dn tabL
  rw [h.ds, h.l]
theorem num_new (k : Nat) (hk : k < 8) : numD (tabL k) (nmL k) = -1 := by
  have h : ∀ k : Fin 8, numD (tabL k) (nmL k) = -1 := by decide
  exact h ⟨k, hk⟩
theorem num_had (k i : Nat) (hk : k ≤ 8) (hi : i < k) : numD (tabL k) (nmL i) = (i : Int) := by
  have h : ∀ k : Fin 9, ∀ i : Fin 8, i.1 < k.1 → numD (tabL k) (nmL i) = (i.1 : Int) := by decide
  exact h ⟨k, by omega⟩ ⟨i, by omega⟩ hi
theorem right_nm (i : Nat) (hi : i < 8) : rightB (nmL i) = true := by
  have h : ∀ i : Fin 8, rightB (nmL i) = true := by decide
  exact h ⟨i, hi⟩
theorem names_tab (k : Nat) (hk : k ≤ 8) : namesD (tabL k) = (List.range k).map fun i => (nmL i).data.toList := by
  have h : ∀ k : Fin 9, strKeys (tabL k) = (List.range k.1).map (fun i => (nmL i).data.toList) ∧ ((List.range k.1).map (fun i => (nmL i).data.toList)).Pairwise (fun x y => decide (x ≤ y) = true) := by decide
  obtain ⟨h1, h2⟩ := h ⟨k, by omega⟩
  unfold namesD
  rw [h1]
  exact List.mergeSort_of_pairwise h2

theorem pass_off {d : Dk} (hg : d.gs = false) (hf : d.fs = false) : passD d = (0, d) := by
  unfold passD dueD
  obtain ⟨a, b, c, e, f, g, h, fs, fl, gs, gl, lo⟩ := d
  simp only at hg hf
  subst hg hf
  simp
theorem fault_off {S : DSt} (hg : S.d.gs = false) : faultS S = S := by
  unfold faultS dueD
  obtain ⟨⟨a, b, c, e, f, g, h, fs, fl, gs, gl, lo⟩, Ds, l, F, nx, st, tot⟩ := S
  simp only at hg
  subst hg
  simp
theorem passS_off {S : DSt} (hg : S.d.gs = false) (hf : S.d.fs = false) : passS S = S := by
  unfold passS
  rw [pass_off hg hf]
theorem w64 {n : Int} (h0 : 0 ≤ n) (h1 : n ≤ 9223372036854775807) : wrap64 n = n := by unfold wrap64; omega
theorem chs_succ (k : Nat) : chsL (k + 1) = chsL k ++ [chL k] := by unfold chsL; rw [List.range_succ, List.map_append]; rfl
/-- Between Create and Append. -/
structure LdM (L : List (List Nat)) (k : Nat) (S : DSt) : Prop where
  lost : S.d.lost = false
  gs : S.d.gs = false
  fs : S.d.fs = false
  cap : S.d.cap = 1048576
  used : S.d.used = (((L.take k).map List.length).sum : Nat)
  ds : S.Ds = .map []
  l : S.l = chsL (k + 1)
  next : S.next = k + 1
  steps : S.steps = k + 1
  files : ∀ i (h : i < k) (h' : i < L.length), (S.F i).bytes = L[i]
  none' : (S.F k).bytes = []
  few : ∀ i, (S.F i).bytes.length ≤ 2000
theorem LdM.dn {L : List (List Nat)} {k : Nat} {S : DSt} (h : LdM L k S) : S.Dn = tabL (k + 1) := by
  unfold DSt.Dn tabL
  rw [h.ds, h.l]
theorem sum_few {L : List (List Nat)} (hL : ∀ x ∈ L, x.length ≤ 2000) : (L.map List.length).sum ≤ 2000 * L.length := by
  induction L with
  | nil => simp
  | cons x L ih =>
    have h1 := ih fun y hy => hL y (by simp [hy])
    have h2 := hL x (by simp)
    simp only [List.map_cons, List.sum_cons, List.length_cons]
    omega
theorem LdS.create {L : List (List Nat)} {k : Nat} {S : DSt} (h : LdS L k S) (hk : k < 8) (hkL : k ≤ L.length) (hL : ∀ x ∈ L.take k, x.length ≤ 2000) : (createS (nmL k) S).1 = 0 ∧ LdM L k (createS (nmL k) S).2 := by
  have hp := pass_off h.gs h.fs
  have e : createS (nmL k) S = (0, turnS ⟨(S.next : Int), ⟨#[]⟩, nmL k⟩ (newS S)) := by
    unfold createS
    rw [h.lost, right_nm k hk, h.dn, num_new k hk, hp, passS_off h.gs h.fs]
    simp
  rw [e]
  have hu : useD (newS S).d.used (newS S).F (newS S).Dn ⟨(S.next : Int), ⟨#[]⟩, nmL k⟩ = S.d.used := by
    have hd : (newS S).Dn = tabL k := by show didAll S.Ds S.l = _; exact h.dn
    have hs : (nmL k).size = 1 := rfl
    unfold useD
    rw [if_neg (by rw [hs]; decide), hd]
    unfold sizeD
    rw [if_pos (num_new k hk)]
    show wrap64 (S.d.used - 0) = S.d.used
    have h1 := sum_few (L := L.take k) hL
    have h2 : (L.take k).length ≤ k := by rw [List.length_take]; omega
    have h3 := h.used
    rw [Int.sub_zero]
    exact w64 (by omega) (by omega)
  refine ⟨rfl, h.lost, h.gs, h.fs, h.cap, ?_, h.ds, ?_, ?_, ?_, fun i hi h' => ?_, ?_, fun i => ?_⟩
  · exact Eq.trans (b := S.d.used) hu h.used
  · show S.l ++ [_] = _
    rw [h.l, chs_succ, h.next]
    rfl
  · show S.next + 1 = _; rw [h.next]
  · show S.steps + 1 = _; rw [h.steps]
  · show (upd S.F S.next ⟨[], 0⟩ i).bytes = _
    rw [upd_other _ _ (by rw [h.next]; omega)]
    exact h.files i hi h'
  · show (upd S.F S.next ⟨[], 0⟩ k).bytes = _
    rw [h.next, upd_same]
  · show (upd S.F S.next ⟨[], 0⟩ i).bytes.length ≤ 2000
    by_cases ei : i = S.next
    · rw [ei, upd_same]; exact Nat.zero_le _
    · rw [upd_other _ _ ei]; exact h.few i
theorem LdM.append {L : List (List Nat)} {k : Nat} {S : DSt} (h : LdM L k S) (hk : k < 8) (hkL : k < L.length) (hL : ∀ x ∈ L.take k, x.length ≤ 2000) (h4 : L[k].length ≤ 2000) : (appendS (nmL k) L[k] S).1 = 0 ∧ LdS L (k + 1) (appendS (nmL k) L[k] S).2 := by
  have hp := pass_off h.gs h.fs
  have h1 := sum_few (L := L.take k) hL
  have h2 : (L.take k).length ≤ k := by rw [List.length_take]; omega
  have h3 := h.used
  have hn : numD S.Dn (nmL k) = (k : Int) := by rw [h.dn]; exact num_had (k + 1) k (by omega) (by omega)
  have e : appendS (nmL k) L[k] S = (0, growS k L[k] S) := by
    unfold appendS
    rw [h.lost, hn, hp, passS_off h.gs h.fs, h.cap]
    have e1 : wrap64 (1048576 - S.d.used) = 1048576 - S.d.used := w64 (by omega) (by omega)
    have e2 : ¬ (1048576 - S.d.used < (L[k].length : Int)) := by omega
    have e3 : ¬ ((k : Int) = -1) := by omega
    simp [e1, e2, e3]
  rw [e]
  refine ⟨rfl, h.lost, h.gs, h.fs, h.cap, ?_, h.ds, h.l, h.next, h.steps, fun i hi h' => ?_, fun i => ?_⟩
  · show wrap64 (S.d.used + L[k].length) = _
    rw [w64 (by omega) (by omega), h3, List.take_succ_eq_append_getElem hkL, List.map_append, List.sum_append]
    simp
  · show (upd S.F k (growF (S.F k) L[k]) i).bytes = _
    by_cases ei : i = k
    · subst ei
      rw [upd_same]
      show (S.F i).bytes ++ L[i] = _
      rw [h.none', List.nil_append]
    · rw [upd_other _ _ ei]
      exact h.files i (by omega) h'
  · show (upd S.F k (growF (S.F k) L[k]) i).bytes.length ≤ 2000
    by_cases ei : i = k
    · rw [ei, upd_same]
      show ((S.F k).bytes ++ L[k]).length ≤ 2000
      rw [h.none', List.nil_append]
      exact h4
    · rw [upd_other _ _ ei]; exact h.few i
/-- What such a disk tells. -/
theorem LdS.read {L : List (List Nat)} {k : Nat} {S : DSt} (h : LdS L k S) (hk : k ≤ 8) (i : Nat) (hi : i < k) (hL : i < L.length) : readS (nmL i) S = (0, S) ∧ (S.F (numD S.Dn (nmL i)).toNat).bytes = L[i] := by
  have hn : numD S.Dn (nmL i) = (i : Int) := by rw [h.dn]; exact num_had k i hk hi
  refine ⟨?_, by rw [hn]; exact h.files i hi hL⟩
  have e3 : ¬ ((i : Int) = -1) := by omega
  unfold readS
  rw [h.lost, hn, h.gs, fault_off h.gs]
  simp [dueD, e3]
end Go.Proofs.YtfgaohilpbocbaaGreatDoor
end

section
namespace Go.Proofs.YtfgaohilpbocbaaGreatDoor
open Go.ChangeShapes Go.WideShapes Go.ChangeAt Go.RowKit Go.Joins
set_option linter.unusedVariables false

section
variable {H : Type} {enc : TypeId × Value → H} {w : World} {base : Nat} {spare : Nat → Bool} {held : Bool}

theorem bytes_in2 {fuel : Nat} {c : Value} {x : DataW H × List MemPlace} (h : DataW.trod enc Tryz.prog w base spare held fuel 53 [c] = some x) :
    ∃ a cap l, c = .slice a l.length cap ∧ Sl w a cap l ∧ ((∀ n ∈ DataW.weights Tryz.prog 53 x.1, n ≤ reachBytes) → l.length ≤ 140737488351232) := by
  obtain ⟨a, cap, l, e, hs⟩ := bytes_in h
  refine ⟨a, cap, l, e, hs, fun hw => ?_⟩
  rcases open_ints Tryz.underlying53 Tryz.underlying5 cells8 h with ⟨hcs, hx⟩ | ⟨a', len, cap', zs, hcs, _, hl, hm, hz, hx, hcell, hwz⟩
  · simp only [List.cons.injEq, and_true] at hcs
    rw [e] at hcs
    injection hcs with _ h2 _
    omega
  · simp only [List.cons.injEq, and_true] at hcs
    rw [e] at hcs
    injection hcs with _ h2 _
    subst hx
    have := hw (((lits (H := H) .u8 (zs.take len)).length + (lits (H := H) .u8 (zs.drop len)).length) * Tryz.prog.bytesOf 5) (by simp [DataW.weights, Tryz.underlying53])
    rw [show Tryz.prog.bytesOf 5 = 1 from by kernel_rfl] at this
    have hr : reachBytes = 140737488351232 := rfl
    have hlz : len ≤ zs.length := by rw [hz]; split <;> omega
    simp [lits] at this
    omega
theorem weights_mem {e : TypeId} : ∀ {l : List (DataW H)} {d : DataW H}, d ∈ l → ∀ n ∈ DataW.weights Tryz.prog e d, n ∈ DataW.weightsAll Tryz.prog e l
  | x :: l, d, hd, n, hn => by
    simp only [DataW.weightsAll, List.mem_append]
    rcases List.mem_cons.1 hd with rfl | hd
    · exact .inl hn
    · exact .inr (weights_mem hd n hn)
end
end Go.Proofs.YtfgaohilpbocbaaGreatDoor
end
