/-
  What Read and Append do to a disk.
-/
import Derived.Test.YtoiggdcgfbjhpaaDskY
import Derived.Test.YtoiggdcgfbjhpaaBytes
namespace Go.Proofs.Ytoiggdcgfbjhpaa
open Go.ChangeShapes Go.WideShapes Go.ChangeAt Go.RowKit Go.Joins
set_option linter.unusedVariables false

def faultS (S : St) : St := { S with d := { S.d with gs := (dueD S.d.gs S.d.gl).2.1, gl := (dueD S.d.gs S.d.gl).2.2 } }
def readS (s : ByteArray) (S : St) : Int × St :=
  if S.d.lost then (6, S) else if numD S.Dn s = -1 then (7, S) else if (dueD S.d.gs S.d.gl).1 then (10, faultS S) else (0, faultS S)
theorem fault_rep {w : World} {B : Nat} {S : St} {g : Gh} (h : Rep w B S g) :
    Calls Try.prog 38 #[.pointer (some ⟨B, 7, none⟩)] w fun e w' => e = .returned (.bool (dueD S.d.gs S.d.gl).1) ∧ Rep w' B (faultS S) g ∧ Only B w w' := by
  refine (due_fault h.at').mono ?_
  rintro e w' ⟨rfl, h1, h2⟩
  exact ⟨rfl, h.core h1 h2, h2⟩

/-- What Read gives: of a file that is there and can be read a copy of its bytes, in new memory. -/
def ReadPost (B : Nat) (s : ByteArray) (S : St) (g : Gh) (w : World) (e : Ending) (w' : World) : Prop :=
  ∃ v w1, e = .returned (.tuple #[v, .int .i64 (readS s S).1]) ∧ Rep w' B (readS s S).2 g ∧ Only B w w1 ∧ Below w1.heap.size w1 w' ∧
    (((readS s S).1 ≠ 0 ∧ v = .slice none 0 0) ∨ ((readS s S).1 = 0 ∧ w'.ownsRow 0 5 1 v (S.F (numD S.Dn s).toNat).bytes.length ((S.F (numD S.Dn s).toNat).bytes.map byteD)))

set_option maxRecDepth 100000 in
theorem read_any {w : World} {B : Nat} {S : St} {g : Gh} (s : ByteArray) (h : Rep w B S g) (hs : s.size ≤ maxLen) :
    Calls Try.prog 22 #[.pointer (some ⟨B, 0, none⟩), .string s] w (ReadPost B s S g w) := by
  have H := Lib.hid h
  have hp := power_rep h
  have c2 : w.cell? ⟨B, 2, none⟩ = some (.map g.nm) := by rw [h.at'.cell]; simp [Dk.cells, Gh.on]
  have hq := fault_rep h
  have hnum := h.nm.num hs
  clear h hs
  cases hl : S.d.lost with
  | true =>
    have HV : Hid (readS s S = (6, S)) := by show _ = _; unfold readS; rw [if_pos hl]
    rw [hl] at hp
    simp only [if_true] at hp
    clear hl hq hnum
    go_enter Try.func22, Try.ntmps22
    go_wp2_with fail
    (with_reducible refine hp.mono ?_)
    rintro e w1 ⟨rfl, rfl⟩
    go_wp2_with fail
    go_ret2
    refine ⟨.slice none 0 0, w, ?_, ?_, Only.refl _ _, Below.refl _ _, .inl ⟨?_, rfl⟩⟩ <;> rw [HV.out]
    · rfl
    · exact H.out
    · simp
  | false =>
    rw [hl] at hp
    simp only [Bool.false_eq_true, if_false] at hp
    rcases hnum with ⟨hn, hr⟩ | ⟨b, i, hi, hn, hr⟩
    · have HV : Hid (readS s S = (7, S)) := by show _ = _; unfold readS; rw [if_neg (by simp [hl]), if_pos hn]
      have hq := eqp_none w
      clear hl hn
      go_enter Try.func22, Try.ntmps22
      go_wp2_with fail
      (with_reducible refine hp.mono ?_)
      rintro e w1 ⟨rfl, rfl⟩
      go_wp2_with fail
      go_ret2
      refine ⟨.slice none 0 0, w, ?_, ?_, Only.refl _ _, Below.refl _ _, .inl ⟨?_, rfl⟩⟩ <;> rw [HV.out]
      · rfl
      · exact H.out
      · simp
    · have heq := eqp_some b w
      have hnn : ¬ numD S.Dn s = -1 := by rw [hn]; omega
      cases h0 : (dueD S.d.gs S.d.gl).1 with
      | true =>
        have HV : Hid (readS s S = (10, faultS S)) := by show _ = _; unfold readS; rw [if_neg (by simp [hl]), if_neg hnn, if_pos h0]
        rw [h0] at hq
        clear hl hn hnn hi h0
        go_enter Try.func22, Try.ntmps22
        go_wp2_with fail
        (with_reducible refine hp.mono ?_)
        rintro e w1 ⟨rfl, rfl⟩
        go_wp2_with fail
        (with_reducible refine hq.mono ?_)
        rintro e w1 ⟨rfl, h1, o1⟩
        have H1 := Lib.hid (And.intro h1 o1)
        clear h1 o1
        go_wp2_with fail
        go_ret2
        refine ⟨.slice none 0 0, w1, ?_, ?_, H1.out.2, Below.refl _ _, .inl ⟨?_, rfl⟩⟩ <;> rw [HV.out]
        · rfl
        · exact H1.out.1
        · simp
      | false =>
        have HV : Hid (readS s S = (0, faultS S)) := by show _ = _; unfold readS; rw [if_neg (by simp [hl]), if_neg hnn, if_neg (by simp [h0])]
        have HI := Lib.hid (And.intro hi hn)
        rw [h0] at hq
        clear hl hn hnn h0 hi
        go_enter Try.func22, Try.ntmps22
        go_wp2_with fail
        (with_reducible refine hp.mono ?_)
        rintro e w1 ⟨rfl, rfl⟩
        go_wp2_with fail
        (with_reducible refine hq.mono ?_)
        rintro e w1 ⟨rfl, h1, o1⟩
        have H1 := Lib.hid (And.intro h1 o1)
        obtain ⟨_, hsz, _, v, _, ho, hb⟩ : FileAt w1 b (g.rb i) (S.F i) := h1.files b i HI.out.1
        have hsz : (S.F i).bytes.length ≤ 1000000 := hsz
        have k0 : w1.cell? ⟨b, 0, none⟩ = some v := by rw [cell_of_row w1 b 0 _ _ (0, 0) hb]; rfl
        have hcl := cloneB_any ho hsz (fun u hu => by obtain ⟨n, _, rfl⟩ := List.mem_map.1 hu; rfl)
        obtain ⟨a, cap, rfl, -, -⟩ := own_shape ho
        clear h1 o1 c2 hr heq hp hq hb ho
        go_wp2_with fail
        (with_reducible refine hcl.mono ?_)
        rintro e w2 ⟨v', rfl, N2⟩
        obtain ⟨a', cap', rfl, -, -⟩ := own_shape N2.row
        have HR : Hid (ReadPost B s S g w (.returned (.tuple #[.slice a' (S.F i).bytes.length cap', .int .i64 0])) w2) := by
          refine ⟨.slice a' (S.F i).bytes.length cap', w1, ?_, ?_, H1.out.2, N2.low, .inr ⟨?_, ?_⟩⟩
          · rw [HV.out]
          · rw [HV.out]; exact H1.out.1.later N2.low
          · rw [HV.out]
          · rw [HI.out.2]; exact N2.row
        clear N2 hcl
        generalize (S.F i).bytes.length = n at *
        go_wp2_with fail
        go_ret2
        exact HR.out

/-! Append. -/
theorem Sl.take {w : World} {a : Option Addr} {cap : Nat} {l : List Nat} (h : Sl w a cap l) (k : Nat) : Sl w a cap (l.take k) := by
  refine ⟨fun n hn => h.byte n (List.mem_of_mem_take hn), ?_, h.most, fun e => ?_, ?_⟩
  · have := h.len; rw [List.length_take]; omega
  · obtain ⟨rfl, h2⟩ := h.none e; exact ⟨by simp, h2⟩
  · rcases h.here with rfl | ⟨b, off, e, hb⟩
    · exact .inl (by simp)
    · refine .inr ⟨b, off, e, fun i hi => ?_⟩
      have hi2 : i < l.length := by rw [List.length_take] at hi; omega
      rw [hb i hi2]
      simp
theorem Sl.fr {X : Nat → Prop} {w w' : World} {a : Option Addr} {cap : Nat} {l : List Nat} (h : Sl w a cap l) (k : Fr X w w') (hx : ∀ p, a = Option.some p → l ≠ [] → ¬ X p.block) : Sl w' a cap l := by
  refine ⟨h.byte, h.len, h.most, h.none, ?_⟩
  rcases h.here with h0 | ⟨b, off, e, hb⟩
  · exact .inl h0
  · refine .inr ⟨b, off, e, fun i hi => ?_⟩
    have h1 := hb i hi
    have hlt := World.block_lt_of_cell? w _ h1
    rw [World.cell?_of_block (w := w) (k.block b hlt (hx _ e (fun e0 => by subst e0; simp at hi)))]
    exact h1

/-- Bytes behind a row of one's own. -/
theorem run_appB (w : World) (ty : TypeId) {v : Value} {n : Nat} {xs : List Value} (ho : w.ownsRow 0 5 1 v n xs) (ga : Option Addr) (gc : Nat) (m : List Nat) (hs : Sl w ga gc m) (hn : n + m.length ≤ 1000000) :
    ∃ v' w', (Builtin.append_ #[30, 30] ty #[v, .slice ga m.length gc]).run Try.prog w = .ok v' w' ∧ w'.ownsRow 0 5 1 v' (n + m.length) (xs ++ m.map byteD) ∧ w.grownBy w' v.ownBlock ∧ (v'.ownBlock = v.ownBlock ∨ v'.ownBlock = some w.heap.size) := by
  obtain ⟨i0, hi, hz0, hz1, hz2⟩ := info_c infoB
  by_cases hga : ga = none
  · subst hga
    obtain ⟨rfl, rfl⟩ := hs.none rfl
    refine ⟨v, w, ?_, by simpa using ho, ⟨rfl, rfl, rfl, Nat.le_refl _, fun _ _ _ => rfl⟩, .inl rfl⟩
    rcases ho.2 with ⟨rfl, rfl⟩ | ⟨gg, cap, cur, rfl, -, -, hcap, -, -, -⟩
    · simp [Builtin.append_, run_underlying Try.underlying30, sizeOf, typeInfo, hi, Builtin.lenOf, Builtin.firstCells]
    · simp [Builtin.append_, run_underlying Try.underlying30, sizeOf, typeInfo, hi, Builtin.lenOf, Builtin.firstCells, storeCells, hcap]
  · obtain ⟨ad, rfl⟩ := Option.ne_none_iff_exists'.1 hga
    have hnews : ∀ j u, (m.map byteD)[j]? = some u → w.cell? (ad.add j) = some u := fun j u hj => by
      rw [List.getElem?_map] at hj
      obtain ⟨x, hx, rfl⟩ := Option.map_eq_some_iff.1 hj
      obtain ⟨hjl, rfl⟩ := List.getElem?_eq_some_iff.1 hx
      obtain ⟨b, off, e, hb⟩ := hs.some (k := j) hjl
      cases e
      have := hb j hjl
      by_cases j0 : j = 0
      · subst j0; simpa [Addr.add, byteD] using this
      · simpa [Addr.add, j0, byteD] using this
    obtain ⟨v', w', hr, h2, h3, h4, h5⟩ := run_append_own_at (P := Try.prog) w 0 30 ty 5 i0 (.int .u8 0) 1 1 Try.underlying30 hi hz0 hz1 hz2 rfl (by decide) v n xs ho ad m.length gc (m.map byteD) (by simp) hnews (fun u hu => by obtain ⟨n, _, rfl⟩ := List.mem_map.1 hu; rfl) (by unfold maxLen; omega) (by omega) (Nat.zero_le _)
    exact ⟨v', w', hr, h2, h3, h5⟩

theorem wpList_appB {ops : Array Oper} {rest : List Oper} {o : Oper} {a : Act} {Q : Exit → Act → World → Prop} (w : World) (hgd : o.guard = none) (s x : Operand)
    (ho : o.op = .call { callee := .builtin .append, args := #[s, x], argTypes := #[30, 30] })
    (v : Value) (n : Nat) (xs : List Value) (hsv : a.eval s = v) (hown : w.ownsRow 0 5 1 v n xs) (ga : Option Addr) (gc : Nat) (m : List Nat) (hxv : a.eval x = .slice ga m.length gc) (hs : Sl w ga gc m) (hn : n + m.length ≤ 1000000)
    (h : ∀ v' w', w'.ownsRow 0 5 1 v' (n + m.length) (xs ++ m.map byteD) → w.grownBy w' v.ownBlock → (v'.ownBlock = v.ownBlock ∨ v'.ownBlock = some w.heap.size) → wpList Try.prog ops Q rest (a.put o.dst v') w') :
    wpList Try.prog ops Q (o :: rest) a w := by
  refine wpList_plain hgd fun K hK => ?_
  obtain ⟨v', w', hr, h2, h3, h4⟩ := run_appB w o.type hown ga gc m hs hn
  unfold Oper.wp execOp
  simp only [ho, resolve, invoke, builtin, Sem.run_bind, Sem.run_pure, Result.andThen_ok, List.map_toArray, List.map_cons, List.map_nil, hsv, hxv, hr]
  exact hK _ _ (h v' w' h2 h3 h4)

def growF (f : Fl) (m : List Nat) : Fl := { f with bytes := f.bytes ++ m }
def growS (i : Nat) (m : List Nat) (S : St) : St := { S with F := upd S.F i (growF (S.F i) m), d := { S.d with used := wrap64 (S.d.used + m.length) }, tot := S.tot + m.length }
def appendS (s : ByteArray) (m : List Nat) (S : St) : Int × St :=
  if S.d.lost then (6, S) else if numD S.Dn s = -1 then (7, S) else if wrap64 (S.d.cap - S.d.used) < (m.length : Int) then (4, S) else
  if (passD S.d).1 = 10 then (10, passS S) else ((passD S.d).1, growS (numD S.Dn s).toNat (if (passD S.d).1 = 6 then m.take (m.length / 2) else m) (passS S))
theorem passD_cases (d : Dk) : (passD d).1 = 0 ∨ (passD d).1 = 6 ∨ (passD d).1 = 10 := by
  unfold passD
  split
  · exact .inr (.inr rfl)
  · split
    · exact .inr (.inl rfl)
    · exact .inl rfl

theorem room_rep {w : World} {B : Nat} {S : St} {g : Gh} (h : Rep w B S g) : Calls Try.prog 11 #[.pointer (some ⟨B, 0, none⟩)] w fun e w' => e = .returned (.int .i64 (wrap64 (S.d.cap - S.d.used))) ∧ Below w.heap.size w w' ∧ w'.heap = w.heap := by
  refine (room_any h.at').mono ?_
  rintro e w' ⟨rfl, h1, h2⟩
  exact ⟨rfl, ⟨h1.os, h1.tape, h1.output, by rw [h2]; exact Nat.le_refl _, fun k hk => by rw [h2]⟩, h2⟩

/-- A file's bytes have grown. -/
theorem Rep.grow {w w2 : World} {B : Nat} {S : St} {g : Gh} (h : Rep w B S g) {b i : Nat} (hi : g.ι b = some i) {v v' : Value} (hv : w.heap[b]? = some (.cells #[v, .int .i64 ((S.F i).safe : Int)] 69 (0, 0))) (m : List Nat) (hm : ∀ n ∈ m, n < 256) (hsz : (S.F i).bytes.length + m.length ≤ 1000000)
    (h1 : w2.ownsRow 0 5 1 v' ((S.F i).bytes.length + m.length) ((S.F i).bytes.map byteD ++ m.map byteD)) (h2 : w.grownBy w2 v.ownBlock) (h3 : v'.ownBlock = v.ownBlock ∨ v'.ownBlock = some w.heap.size) :
    DkAt (w2.setCell ⟨b, 0, none⟩ v') B (g.on S.d) ∧ ∀ w4, DkAt w4 B (g.on { S.d with used := wrap64 (S.d.used + m.length) }) → Only B (w2.setCell ⟨b, 0, none⟩ v') w4 → Did B (growS i m S) g w w4 := by
  obtain ⟨f1, f2, f3, v0, e, ho, hb⟩ := h.files b i hi
  obtain rfl : v0 = v := by
    rw [hv] at hb
    simpa using hb.symm
  have hrow : ∀ r, v0.ownBlock = some r → ∃ cs, w.heap[r]? = some (.cells cs 5 (0, 0)) := fun r hr => (h.files b i hi).bytesBlock (by rw [← e]; exact hr)
  have hvb : ∀ r, v'.ownBlock = some r → r ≠ b := fun r hr e2 => by
    subst e2
    rcases h3 with h3 | h3
    · rw [h3] at hr
      obtain ⟨_, h5⟩ := hrow r hr
      rw [hv] at h5; cases h5
    · rw [h3] at hr
      have := blk_lt hv
      have : w.heap.size = r := Option.some.inj hr
      omega
  have k2 : Fr (fun k => k = b ∨ g.rb i = some k) w w2 := Fr.of_grown h2 fun r hr => .inr (by rw [← e]; exact hr)
  have k3 : Fr (fun k => k = b ∨ g.rb i = some k) w (w2.setCell ⟨b, 0, none⟩ v') := k2.set (fun _ => .inl rfl) _
  have hb2 : w2.heap[b]? = some (.cells #[v0, .int .i64 ((S.F i).safe : Int)] 69 (0, 0)) := by
    rw [h2.block b (blk_lt hv) (fun e2 => by obtain ⟨_, h5⟩ := hrow b e2.symm; rw [hv] at h5; cases h5)]
    exact hv
  have hf' : FileAt (w2.setCell ⟨b, 0, none⟩ v') b v'.ownBlock (growF (S.F i) m) := by
    refine ⟨fun n hn => ?_, ?_, ?_, v', rfl, ⟨?_, ?_⟩, ?_⟩
    · rcases List.mem_append.1 hn with hn | hn
      · exact f1 n hn
      · exact hm n hn
    · show ((S.F i).bytes ++ m).length ≤ 1000000
      rw [List.length_append]; exact hsz
    · show (S.F i).safe ≤ ((S.F i).bytes ++ m).length
      rw [List.length_append]; omega
    · show (((S.F i).bytes ++ m).map byteD).length = ((S.F i).bytes ++ m).length * 1
      simp
    · show _ ∨ _
      have h1' := h1.2
      have el : ((S.F i).bytes ++ m).length = (S.F i).bytes.length + m.length := List.length_append
      rcases h1' with ⟨e1, e2⟩ | ⟨r, cap, cur, e1, e2, e3, e4⟩
      · exact .inl ⟨e1, by show ((S.F i).bytes ++ m).length = 0; rw [el]; exact e2⟩
      · refine .inr ⟨r, cap, cur, ?_, e2, ?_, ?_⟩
        · show v' = Value.slice (some ⟨r, 0, none⟩) ((S.F i).bytes ++ m).length cap
          rw [el]; exact e1
        · rw [heap_setCell_other _ _ _ _ (by show r ≠ b; exact hvb r (by rw [e1]; rfl))]; exact e3
        · show _
          simp only [growF, List.map_append, List.length_append]
          exact e4
    · rw [heap_setCell_same w2 b 0 _ _ _ hb2]; rfl
  obtain ⟨r1, r2⟩ := h.file hi hf' (fun k hk => by
    rcases h3 with h3 | h3
    · rw [h3] at hk; exact .inl (by rw [← e]; exact hk)
    · rw [h3] at hk
      have : w.heap.size = k := Option.some.inj hk
      exact .inr (by omega)) k3
  refine ⟨r1.at', fun w4 hd ho4 => ?_⟩
  have r3 := r1.core (d := { S.d with used := wrap64 (S.d.used + m.length) }) hd ho4
  refine ⟨_, ⟨r3.at', r3.l, r3.wts, r3.wcap, r3.nm, r3.sf, r3.nil, r3.apart, r3.nil0, r3.files, r3.inj, r3.injr, r3.lt, r3.nn, r3.ns⟩, (k3.mono fun j _ hj => ?_).trans (Fr.of_only ho4 (.inl rfl)), r2⟩
  rcases hj with rfl | hj
  · exact .inr (.inr (.inr (.inr (.inl ⟨i, hi⟩))))
  · exact .inr (.inr (.inr (.inr (.inr ⟨b, i, hi, hj⟩))))
end Go.Proofs.Ytoiggdcgfbjhpaa
