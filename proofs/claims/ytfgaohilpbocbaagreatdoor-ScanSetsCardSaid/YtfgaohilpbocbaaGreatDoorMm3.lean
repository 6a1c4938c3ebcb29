/-
  Package codec: an Out's N, Text, Raw.
  Layer 13's laws, out of what package codec answers: awake; nothing at all.
  Layer 13's law CodecWrites: what is put, told; bytes appended to a row of one's own.
  Package codec: an Out's Text and Raw; a copy of bytes, in memory that is new; nil.
  Layer 13's law CodecWrites: an Out and the row of bytes beside it.
  A statement that leaves its order open and makes memory: its operations that only read are taken as soon as they may come up, its calls one by one; behind each call the knowledge of the world grows. Nothing of the program's dump is named here.
-/
import Derived.Test.YtfgaohilpbocbaaGreatDoorMm2
import Derived.Lib.SlBytesConst
import Derived.Maps.AppendAt
import Derived.Lib.ConvBytes
import Derived.Deep.RegionHeld3
import Derived.Deep.QuietTactic
import Derived.BigQuiet
import Derived.Lib.QuietBelow
section
namespace Go.Proofs.YtfgaohilpbocbaaGreatDoor
open Go.ChangeShapes Go.WideShapes Go.ChangeAt Go.RowKit Go.Joins
set_option linter.unusedVariables false

theorem addO_none (s : Option (List Nat)) : addO s none = none := by cases s <;> rfl

/-- N, out of what spoil and put do. -/
def fitsN (v n : Int) : Prop := 1 ≤ n ∧ n ≤ 6 ∧ 0 ≤ v ∧ v < 256 ^ n.toNat
set_option maxRecDepth 100000 in
set_option maxHeartbeats 1000000 in
theorem outN_core (pv : Option Addr) (w : World) (v n : Int) (hv : i64R v) (hn : i64R n) (P : World → Prop)
    (hsp : ¬ fitsN v n → Calls Tryz.prog 184 #[.pointer pv] w fun e w' => e = .returned (.tuple #[]) ∧ P w')
    (hpt : ∀ V N : Nat, v = (V : Int) → n = (N : Int) → N ≤ 6 → putN v n = some (wideN V N) → ∀ wr, Below w.heap.size w wr → Sl wr (some ⟨w.heap.size, 0, none⟩) N (wideN V N) →
      Calls Tryz.prog 183 #[.pointer pv, .slice (some ⟨w.heap.size, 0, none⟩) N N] wr fun e w' => e = .returned (.tuple #[]) ∧ P w') :
    Calls Tryz.prog 142 #[.pointer pv, .int .i64 v, .int .i64 n] w fun e w' => e = .returned (.tuple #[]) ∧ P w' := by
  have hv1 := hv.1
  have hv2 := hv.2
  have HZ := Lib.hid (sized_any n w hn)
  have HSPA := Lib.hid hsp
  have HPTA := Lib.hid hpt
  clear hsp hpt
  have HV := Lib.hid hv
  clear hv
  by_cases g : 1 ≤ n ∧ n ≤ 6
  · have HSZ : Hid (Calls Tryz.prog 167 #[.int .i64 n] w fun e w' => e = .returned (.bool true) ∧ w = w') := HZ.out.mono fun e w' h => ⟨by rw [h.1, decide_eq_true g], h.2⟩
    obtain ⟨g1, g2⟩ := g
    clear HZ
    by_cases g3 : 0 ≤ v
    · obtain ⟨V, rfl⟩ : ∃ V : Nat, v = (V : Int) := ⟨v.toNat, by omega⟩
      obtain ⟨N, rfl⟩ : ∃ N : Nat, n = (N : Int) := ⟨n.toNat, by omega⟩
      have hpow : (2 : Int) ^ (8 * N) = ((256 ^ N : Nat) : Int) := by
        rw [Int.pow_mul]
        simp
      have hN6 : N ≤ 6 := by omega
      have d3 : decide ((V : Int) < 0) = false := decide_eq_false (by omega)
      have hw8 : (8 * (N : Int)).toNat = 8 * N := by omega
      obtain ⟨R, hR⟩ : ∃ R : Nat, R = V / 256 ^ N := ⟨_, rfl⟩
      have hsh : (V : Int) / 2 ^ (8 * N) = (R : Int) := by rw [hpow, hR]; simp
      have HPW := Lib.hid hpow
      have HRR := Lib.hid hR
      clear hpow hR
      by_cases g4 : V < 256 ^ N
      · have HP : Hid (putN (V : Int) (N : Int) = some (wideN V N)) := by
          show _ = _
          unfold putN
          rw [if_pos ⟨g1, g2, by omega, by rw [Int.toNat_natCast]; exact_mod_cast g4⟩]
          simp
        obtain rfl : R = 0 := by rw [HRR.out]; exact Nat.div_eq_of_lt g4
        clear HRR g4 HSPA
        have hmk := make_row N (by omega) w
        have HB0 : Hid (Below w.heap.size w (w.alloc (.cells (rowArr N zV) 5))) := (Below.refl _ _).alloc (Nat.le_refl _) _
        have HR0 : Hid (Row (w.alloc (.cells (rowArr N zV) 5)) w.heap.size 5 N N (backV V N 0)) := (Row.new_whole w _ _ zV _ _ rfl rfl).mono (Nat.le_refl _) fun j hj => by
          unfold backV
          rw [if_neg (by omega)]
        obtain ⟨G, hG⟩ : ∃ G, G = w.heap.size := ⟨_, rfl⟩
        obtain ⟨w1, hw1⟩ : ∃ w1, w1 = w.alloc (.cells (rowArr N zV) 5) := ⟨_, rfl⟩
        have HGE := Lib.hid hG
        rw [← hG, ← hw1] at hmk
        rw [← hw1] at HB0 HR0
        rw [← hG] at HR0
        clear hw1 hG
        go_enter Tryz.func142, Tryz.ntmps142
        go_wp2_with fail
        (with_reducible refine HSZ.out.mono ?_)
        rintro e w' ⟨rfl, rfl⟩
        go_wp2_with fail
        clear hmk HSZ hsh hw8
        go_loopw [28] (fun i wr => ∃ k : Nat, k ≤ N ∧ i = .int .i64 (k : Int) ∧ Hid (Row wr G 5 N N (backV V N k)) ∧ Hid (Below w.heap.size w wr)) (fun i _ => N - (intOf i).toNat)
        case atStart => exact ⟨0, by omega, rfl, HR0, HB0⟩
        case round =>
          obtain ⟨k, hk, rfl, HR, HB⟩ := hrel
          clear HR0 HB0
          by_cases hlt : k < N
          · have hkz : (k : Int) < (N : Int) := by omega
            obtain ⟨m, hm⟩ : ∃ m : Nat, (N : Int) - 1 - (k : Int) = (m : Int) := ⟨N - 1 - k, by omega⟩
            have hmn : m < N := by omega
            have hmz : (m : Int) < (N : Int) := by omega
            have hw8k : (8 * (k : Int)).toNat = 8 * k := by omega
            obtain ⟨T, hT⟩ : ∃ T : Nat, T = V / 256 ^ k := ⟨_, rfl⟩
            have hpk : (2 : Int) ^ (8 * k) = ((256 ^ k : Nat) : Int) := by
              rw [Int.pow_mul]
              simp
            have hshk : (V : Int) / 2 ^ (8 * k) = (T : Int) := by rw [hpk, hT]; simp
            have HMD : Hid ((T : Int) % 256 = ((T % 256 : Nat) : Int)) := by show _ = _; omega
            obtain ⟨_, c1⟩ := HR.out.has m hmn
            have f1 := HR.out.loose m
            have HRN : Hid (Row (wr.setCell ⟨G, m, none⟩ (.int .u8 ((T : Int) % 256))) G 5 N N (backV V N (k + 1))) := (HR.out.upd m hmn _).mono (Nat.le_refl _) fun j hj => by
              have hnk : N - (k + 1) = m := by omega
              by_cases e : j = m
              · subst e
                have hlen : j < (wideN V N).length := by rw [wideN_len]; exact hj
                simp only [if_true, backV, hnk, Nat.le_refl]
                rw [HMD.out, vOf_eq _ _ hlen, wideN_get N V j hlen hj, hT, show N - 1 - j = k by omega]
              · simp only [e, if_false, backV, hnk]
                by_cases h : N - k ≤ j
                · rw [if_pos h, if_pos (by omega)]
                · rw [if_neg h, if_neg (by omega)]
            have HBN : Hid (Below w.heap.size w (wr.setCell ⟨G, m, none⟩ (.int .u8 ((T : Int) % 256)))) := HB.out.setCell (p := ⟨G, m, none⟩) (by rw [← HGE.out]; exact Nat.le_refl _) _
            have HM := Lib.hid hm
            clear hT hpk
            go_wp2_with fail
            go_roundw
            case rel => exact ⟨k + 1, by omega, by go_num, HRN, HBN⟩
            case measure => simp [intOf]; omega
          · obtain rfl : k = N := by omega
            have hdd : decide ((k : Int) < (k : Int)) = false := by simp
            have hzz : ¬ (k : Int) < (k : Int) := by omega
            have hwl : (wideN V k).length = k := wideN_len _ _
            have HSL : Hid (Sl wr (some ⟨G, 0, none⟩) k (wideN V k)) := Row.sl (HR.out.mono (Nat.le_refl _) fun j hj => by unfold backV; rw [if_pos (by omega)]) hwl (wideN_byte _ _) (by unfold maxLen; omega)
            have HPT := Lib.hid (HPTA.out V k rfl rfl (by omega) HP.out wr HB.out (by rw [← HGE.out]; exact HSL.out))
            rw [← HGE.out] at HPT
            clear hwl
            go_wp2_with fail
            (with_reducible refine HPT.out.mono ?_)
            rintro e w' ⟨rfl, hp⟩
            go_wp2_with fail
            go_end0
            exact ⟨rfl, hp⟩
      · have d4 : ((R : Int) == 0) = false := by
          rw [beq_eq_false_iff_ne, HRR.out]
          have := Nat.div_pos (Nat.le_of_not_lt g4) (show 0 < 256 ^ N from Nat.pow_pos (by omega))
          omega
        have d5 : decide ((R : Int) = 0) = false := decide_eq_false (by simpa using d4)
        have HSP := Lib.hid (HSPA.out fun e => g4 (by have := e.2.2.2; rw [Int.toNat_natCast] at this; exact_mod_cast this))
        clear HSPA HPTA HRR g4
        go_enter Tryz.func142, Tryz.ntmps142
        go_wp2_with fail
        (with_reducible refine HSZ.out.mono ?_)
        rintro e w' ⟨rfl, rfl⟩
        go_wp2_with fail
        (with_reducible refine HSP.out.mono ?_)
        rintro e w' ⟨rfl, hp⟩
        go_wp2_with fail
        refine bodyPost_ret (results_none rfl _ _ _) rfl ?_
        exact ⟨rfl, hp⟩
    · have d3 : decide (v < 0) = true := decide_eq_true (by omega)
      have HSP := Lib.hid (HSPA.out fun e => g3 e.2.2.1)
      clear HSPA HPTA
      go_enter Tryz.func142, Tryz.ntmps142
      go_wp2_with fail
      (with_reducible refine HSZ.out.mono ?_)
      rintro e w' ⟨rfl, rfl⟩
      go_wp2_with fail
      (with_reducible refine HSP.out.mono ?_)
      rintro e w' ⟨rfl, hp⟩
      go_wp2_with fail
      refine bodyPost_ret (results_none rfl _ _ _) rfl ?_
      exact ⟨rfl, hp⟩
  · have HSZ : Hid (Calls Tryz.prog 167 #[.int .i64 n] w fun e w' => e = .returned (.bool false) ∧ w = w') := HZ.out.mono fun e w' h => ⟨by rw [h.1, decide_eq_false g], h.2⟩
    have HSP := Lib.hid (HSPA.out fun e => g ⟨e.1, e.2.1⟩)
    clear HSPA HPTA HZ g
    go_enter Tryz.func142, Tryz.ntmps142
    go_wp2_with fail
    (with_reducible refine HSZ.out.mono ?_)
    rintro e w' ⟨rfl, rfl⟩
    go_wp2_with fail
    (with_reducible refine HSP.out.mono ?_)
    rintro e w' ⟨rfl, hp⟩
    go_wp2_with fail
    refine bodyPost_ret (results_none rfl _ _ _) rfl ?_
    exact ⟨rfl, hp⟩

theorem outN_any (X : Nat → Prop) (w : World) (b : Nat) (s : Option (List Nat)) (q : Nat) (v n : Int) (h : OutAt X w b s q) (hq : q ≤ 40000) (hv : i64R v) (hn : i64R n) :
    Calls Tryz.prog 142 #[.pointer (some ⟨b, 0, none⟩), .int .i64 v, .int .i64 n] w (OutPost OutAt X w b (addO s (putN v n)) (q + 6)) := by
  refine outN_core _ w v n hv hn _ (fun e => ?_) (fun V N _ _ hN hp wr hB hsl => ?_)
  · have := spoil_any X w b s q (q + 6) h
    unfold fitsN at e
    unfold putN
    rw [if_neg e, addO_none]
    exact this
  · have hwl : (wideN V N).length = N := wideN_len _ _
    have hlt := h.2.1 b h.1
    have HPT := put_any X wr b s q (some ⟨w.heap.size, 0, none⟩) N (wideN V N) (h.keep (Fr.of_below (X := fun _ => False) hB) (fun _ _ h => h)) hsl fun r hr _ => by
      cases hr
      show w.heap.size ≠ b
      omega
    rw [hwl] at HPT
    refine HPT.mono ?_
    rintro e w' ⟨rfl, X', hX, hN', hF⟩
    refine ⟨rfl, X', ?_, fun j hj => ?_, (Fr.of_below hB).trans hF⟩
    · rw [hp]
      exact hX.mono (by omega)
    · have hb := hB.size
      rcases hN' j hj with h | h | ⟨r, hr, rfl⟩
      · exact .inl h
      · exact .inr (by omega)
      · cases hr
        exact .inr (Nat.le_refl _)
theorem outN_nil (w : World) (v n : Int) (hv : i64R v) (hn : i64R n) : Calls Tryz.prog 142 #[.pointer none, .int .i64 v, .int .i64 n] w fun e w' => e = .returned (.tuple #[]) ∧ Below w.heap.size w w' :=
  outN_core none w v n hv hn _ (fun _ => (spoil_nil w).mono fun e w' h => ⟨h.1, h.2 ▸ Below.refl _ _⟩) (fun V N _ _ _ _ wr hB _ => (put_nil _ _ _ wr).mono fun e w' h => ⟨h.1, h.2 ▸ hB⟩)
end Go.Proofs.YtfgaohilpbocbaaGreatDoor
end

section
namespace Go.Proofs.YtfgaohilpbocbaaGreatDoor
open Go.ChangeShapes Go.WideShapes Go.ChangeAt Go.RowKit Go.Joins
set_option linter.unusedVariables false

/-- One byte that a call makes, marked. -/
theorem one_byte (w : World) (n : Nat) (hn : n < 256) : Sl (w.alloc (.cells #[.int .u8 (n : Int)] 5 (1, 2))) (some ⟨w.heap.size, 0, none⟩) 1 [n] := by
  have h0 : (w.alloc (.cells #[.int .u8 (n : Int)] 5 (1, 2))).heap[w.heap.size]? = some (.cells #[.int .u8 (n : Int)] 5 (1, 2)) := heap_alloc_last w _
  refine ⟨fun m hm => ?_, by simp, by unfold maxLen; omega, fun e => (by cases e), .inr ⟨w.heap.size, 0, rfl, fun j hj => ?_⟩⟩
  · simp at hm; omega
  · have hj0 : j = 0 := by simpa using hj
    subst hj0
    rw [cell_of_row _ _ _ _ _ _ h0]; rfl

end Go.Proofs.YtfgaohilpbocbaaGreatDoor
end

section
namespace Go.Proofs.YtfgaohilpbocbaaGreatDoor
open Go.ChangeShapes Go.WideShapes Go.ChangeAt Go.RowKit Go.Joins
set_option linter.unusedVariables false

/-- What an item puts. -/
def putI (x : Itm) : Option (List Nat) := if x.k < 3 then putN x.v x.n else if x.k = 3 then putT x.b else some x.b
def catI : List Itm → Option (List Nat)
  | [] => some []
  | x :: L => addO (putI x) (catI L)
/-- What has been put. -/
def outOf (L : List Itm) : Option (List Nat) := L.foldl (fun s x => addO s (putI x)) (some [])
theorem addO_assoc (a b c : Option (List Nat)) : addO (addO a b) c = addO a (addO b c) := by
  cases a <;> cases b <;> cases c <;> simp [addO]
theorem addO_nil (a : Option (List Nat)) : addO a (some []) = a := by cases a <;> simp [addO]
theorem nil_addO (a : Option (List Nat)) : addO (some []) a = a := by cases a <;> simp [addO]
theorem fold_cat : ∀ (L : List Itm) (s : Option (List Nat)), L.foldl (fun s x => addO s (putI x)) s = addO s (catI L)
  | [], s => (addO_nil s).symm
  | x :: L, s => by rw [List.foldl_cons, fold_cat L, addO_assoc]; rfl
theorem outOf_cat (L : List Itm) : outOf L = catI L := by unfold outOf; rw [fold_cat, nil_addO]
theorem outOf_next {L : List Itm} {k : Nat} (h : k < L.length) : outOf (L.take (k + 1)) = addO (outOf (L.take k)) (putI L[k]) := by
  unfold outOf
  rw [List.take_succ_eq_append_getElem h, List.foldl_append]
  rfl
/-- What is left to be got. -/
theorem cat_drop {L : List Itm} {k : Nat} (h : k < L.length) : catI (L.drop k) = addO (putI L[k]) (catI (L.drop (k + 1))) := by
  rw [List.drop_eq_getElem_cons h]; rfl
theorem addO_some {a b : Option (List Nat)} {l : List Nat} (h : addO a b = some l) : ∃ x r, a = some x ∧ b = some r ∧ l = x ++ r := by
  cases a with
  | none => simp [addO] at h
  | some x =>
    cases b with
    | none => simp [addO] at h
    | some r => exact ⟨x, r, rfl, rfl, by simpa [addO] using h.symm⟩
theorem outOf_none {L : List Itm} {k : Nat} (h : outOf (L.take k) = none) (hk : k ≤ L.length) : outOf L = none := by
  have e : L = L.take k ++ L.drop k := (List.take_append_drop k L).symm
  have : outOf L = addO (outOf (L.take k)) (catI (L.drop k)) := by
    conv => lhs; rw [e]
    unfold outOf
    rw [List.foldl_append, fold_cat]
  rw [this, h]
  rfl

/-- A row of bytes that a call makes by append. -/
def OwnB (w : World) (v : Value) (l : List Nat) : Prop := w.ownsRow 0 5 1 v l.length (l.map byteV)
theorem OwnB.nil (w : World) : OwnB w (.slice none 0 0) [] := World.ownsRow_nil _ _ _ _
theorem info8C : (Tryz.prog.info? 5).map (fun i => (i.zero, i.size, i.bytes)) = some (some (.int .u8 0), 1, 1) := by kernel_rfl
theorem run_addB (w : World) (ty : TypeId) {v : Value} {l : List Nat} (ho : OwnB w v l) (ga : Option Addr) (gc : Nat) (m : List Nat) (hs : Sl w ga gc m) (hn : l.length + m.length ≤ 1000000) :
    ∃ v' w', (Builtin.append_ #[53, 53] ty #[v, .slice ga m.length gc]).run Tryz.prog w = .ok v' w' ∧ OwnB w' v' (l ++ m) ∧ w.grownBy w' v.ownBlock ∧ (v'.ownBlock = v.ownBlock ∨ v'.ownBlock = some w.heap.size) := by
  obtain ⟨i0, hi, hz0, hz1, hz2⟩ := info_parts info8C
  by_cases hga : ga = none
  · subst hga
    obtain ⟨rfl, rfl⟩ := hs.none rfl
    refine ⟨v, w, ?_, by rw [List.append_nil]; exact ho, ⟨rfl, rfl, rfl, Nat.le_refl _, fun _ _ _ => rfl⟩, .inl rfl⟩
    rcases ho.2 with ⟨rfl, _⟩ | ⟨gg, cap, cur, rfl, -, -, hcap, -, -, -⟩
    · simp [Builtin.append_, run_underlying Tryz.underlying53, sizeOf, typeInfo, hi, Builtin.lenOf, Builtin.firstCells]
    · simp [Builtin.append_, run_underlying Tryz.underlying53, sizeOf, typeInfo, hi, Builtin.lenOf, Builtin.firstCells, storeCells, hcap]
  · obtain ⟨ad, rfl⟩ := Option.ne_none_iff_exists'.1 hga
    have hnews : ∀ j u, (m.map byteV)[j]? = some u → w.cell? (ad.add j) = some u := fun j u hj => by
      rw [List.getElem?_map] at hj
      obtain ⟨x, hx, rfl⟩ := Option.map_eq_some_iff.1 hj
      obtain ⟨hjl, rfl⟩ := List.getElem?_eq_some_iff.1 hx
      obtain ⟨b, off, e, hb⟩ := hs.some (k := j) hjl
      cases e
      have := hb j hjl
      by_cases j0 : j = 0
      · subst j0; simpa [Addr.add, byteV] using this
      · simpa [Addr.add, j0, byteV] using this
    obtain ⟨v', w', hr, h2, h3, h4, h5⟩ := run_append_own_at (P := Tryz.prog) w 0 53 ty 5 i0 (.int .u8 0) 1 1 Tryz.underlying53 hi hz0 hz1 hz2 rfl (by decide) v l.length (l.map byteV) ho ad m.length gc (m.map byteV) (by simp) hnews (fun u hu => by obtain ⟨n, _, rfl⟩ := List.mem_map.1 hu; rfl) (by unfold maxLen; omega) (by omega) (Nat.zero_le _)
    refine ⟨v', w', hr, ?_, h3, h5⟩
    unfold OwnB
    rw [List.length_append, List.map_append]
    exact h2
theorem wpList_addB {ops : Array Oper} {rest : List Oper} {o : Oper} {a : Act} {Q : Exit → Act → World → Prop} (w : World) (hgd : o.guard = none) (s x : Operand)
    (ho : o.op = .call { callee := .builtin .append, args := #[s, x], argTypes := #[53, 53] })
    (v : Value) (l : List Nat) (hsv : a.eval s = v) (hown : OwnB w v l) (ga : Option Addr) (gc q : Nat) (m : List Nat) (hxv : a.eval x = .slice ga q gc) (hq : m.length = q) (hs : Sl w ga gc m) (hn : l.length + m.length ≤ 1000000)
    (h : ∀ v' w', Hid (OwnB w' v' (l ++ m)) → Hid (w.grownBy w' v.ownBlock) → Hid (v'.ownBlock = v.ownBlock ∨ v'.ownBlock = some w.heap.size) → wpList Tryz.prog ops Q rest (a.put o.dst v') w') :
    wpList Tryz.prog ops Q (o :: rest) a w := by
  subst hq
  refine wpList_plain hgd fun K hK => ?_
  obtain ⟨v', w', hr, h2, h3, h4⟩ := run_addB w o.type hown ga gc m hs hn
  unfold Oper.wp execOp
  simp only [ho, resolve, invoke, builtin, Sem.run_bind, Sem.run_pure, Result.andThen_ok, List.map_toArray, List.map_cons, List.map_nil, hsv, hxv, hr]
  exact hK _ _ (h v' w' h2 h3 h4)
theorem OwnB.fr {X : Nat → Prop} {w w' : World} {v : Value} {l : List Nat} (h : OwnB w v l) (k : Fr X w w') (hx : ∀ b, v.ownBlock = some b → ¬ X b) : OwnB w' v l := by
  refine ⟨h.1, ?_⟩
  rcases h.2 with h0 | ⟨g, cap, cur, e, h1, hg, r⟩
  · exact .inl h0
  · refine .inr ⟨g, cap, cur, e, h1, ?_, r⟩
    rw [k.block g (Array.getElem?_eq_some_iff.1 hg).1 (hx g (by rw [e]; rfl))]
    exact hg
end Go.Proofs.YtfgaohilpbocbaaGreatDoor
end

section
namespace Go.Proofs.YtfgaohilpbocbaaGreatDoor
open Go.ChangeShapes Go.WideShapes Go.ChangeAt Go.RowKit Go.Joins
set_option linter.unusedVariables false

/-- A row of one's own, read. -/
theorem OwnB.sl {w : World} {v : Value} {l : List Nat} (h : OwnB w v l) (hb : IsByte l) : ∃ a c, v = .slice a l.length c ∧ Sl w a c l ∧ ∀ p, a = some p → v.ownBlock = some p.block := by
  rcases h.2 with ⟨rfl, hn⟩ | ⟨g, cap, cur, rfl, h0, hg, h1, h2, h3, h4⟩
  · have e : l = [] := List.eq_nil_of_length_eq_zero hn
    subst e
    exact ⟨none, 0, rfl, nil_sl w, fun p hp => by cases hp⟩
  · refine ⟨some ⟨g, 0, none⟩, cap, rfl, ⟨hb, h1, h2, fun e => (by cases e), .inr ⟨g, 0, rfl, fun i hi => ?_⟩⟩, fun p hp => by cases hp; rfl⟩
    have := World.ownsRow.cells h (g := g) rfl i (byteV l[i]) (by rw [List.getElem?_map, List.getElem?_eq_getElem hi]; rfl)
    by_cases hi0 : i = 0
    · subst hi0; simpa [Addr.add, byteV] using this
    · simpa [Addr.add, hi0, byteV] using this

set_option maxRecDepth 100000 in
/-- bytes.Clone: a copy in memory that is new. -/
theorem clone_new (a : Option Addr) (cap : Nat) (l : List Nat) (w : World) (hl : l.length ≤ 100000) (hs : Sl w a cap l) :
    Calls Tryz.prog 60 #[.slice a l.length cap] w fun e w' => ∃ sa sc, e = .returned (.slice sa l.length sc) ∧ Sl w' sa sc l ∧ (∀ p, sa = some p → w.heap.size ≤ p.block) ∧ Below w.heap.size w w' := by
  cases a with
  | none =>
    obtain ⟨rfl, rfl⟩ := hs.none rfl
    have hq := eqs_no w
    have HR : Hid (Sl w none 0 []) := nil_sl w
    clear hs
    go_enter Tryz.func60, Tryz.ntmps60
    go_wp2_with fail
    go_ret
    exact ⟨_, _, rfl, HR.out, fun p hp => (by cases hp), Below.refl _ _⟩
  | some ad =>
    have hq := eqs_yes ad l.length cap w
    have HBY := Lib.hid hs.byte
    have HB : Hid (Below w.heap.size w (w.alloc (.cells #[] 5))) := (Below.refl _ _).alloc (Nat.le_refl _) _
    have HS : Hid (Sl (w.alloc (.cells #[] 5)) (some ad) cap l) := hs.below HB.out
    have HE : Hid (OwnB (w.alloc (.cells #[] 5)) (.slice (some ⟨w.heap.size, 0, none⟩) 0 0) []) := World.ownsRow_made w #[] 0 (Nat.zero_le _) (by simp) (by simp)
    have hlm := hs.lt
    have hcm : cap ≤ 9223372036854775807 := by have := hs.most; unfold maxLen at this; omega
    clear hs
    go_enter Tryz.func60, Tryz.ntmps60
    go_wp2_with (at_builtin; refine wpList_addB _ rfl _ _ rfl (.slice (some ⟨w.heap.size, 0, none⟩) 0 0) [] rfl HE.out (some ad) cap l.length l rfl rfl HS.out (by simp; omega) ?_; intro v2 w2 HR2 hg2 ho2)
    have hw2 := Below.grown HB.out hg2.out (by simp) (fun k hk => by
      have : w.heap.size = k := by simpa [Value.ownBlock] using hk
      omega)
    have HW := Lib.hid hw2
    obtain ⟨a2, c2, rfl, hsl, hob⟩ := HR2.out.sl HBY.out
    have HSL := Lib.hid hsl
    have HOB : Hid (∀ p, a2 = some p → w.heap.size ≤ p.block) := fun p hp => by
      rcases ho2.out with h | h
      · rw [hob p hp] at h
        have : p.block = w.heap.size := by simpa [Value.ownBlock] using h
        omega
      · rw [hob p hp] at h
        have : p.block = _ := Option.some.inj h
        rw [this]
        simp
    clear HR2 hg2 ho2 hsl hob hw2 HE
    go_wp2_with fail
    go_ret
    exact ⟨a2, c2, by simp, by simpa using HSL.out, HOB.out, HW.out⟩

/-! Text. -/

theorem strOf_size (l : List Nat) : (strOf l).size = l.length := by unfold strOf; rw [strOfNums_size, List.length_map]
theorem strOf_get (l : List Nat) (hb : IsByte l) (j : Nat) (hj : j < l.length) : (((strOf l).data.toList.getD j 0).toNat : Int) = ((l[j] : Nat) : Int) := by
  unfold strOf
  rw [strOfNums_data]
  have := hb l[j] (List.getElem_mem hj)
  simp [List.getD, hj]
  omega
/-- '[]byte(s)': bytes in memory that is new. -/
theorem conv_str (w : World) (l : List Nat) (hb : IsByte l) (hl : l.length ≤ 1000000) :
    ∃ c w', (convert 9 53 (.string (strOf l))).run Tryz.prog w = .ok (.slice (some ⟨w.heap.size, 0, none⟩) l.length c) w' ∧ Sl w' (some ⟨w.heap.size, 0, none⟩) c l ∧ Below w.heap.size w w' := by
  have hr := Go.Lib.run_convert_string_bytes w 9 53 5 (strOf l) Tryz.underlying9 Tryz.underlying53 Tryz.underlying5
  rw [strOf_size] at hr
  refine ⟨_, _, hr, ⟨hb, ?_, ?_, fun e => (by cases e), .inr ⟨w.heap.size, 0, rfl, fun i hi => ?_⟩⟩, ⟨rfl, rfl, rfl, ?_, fun k hk => Go.Lib.bytesWorld_at_old w _ _ k hk⟩⟩
  · have := grownCap_ge w l.length 0 5
    omega
  · exact grownCap_le_maxLen _ _ _ _ (by unfold maxLen; omega)
  · rw [Nat.zero_add, Go.Lib.bytesWorld_cell w _ _ i (by rw [strOf_size]; exact hi), strOf_get l hb i hi]
  · rw [Go.Lib.bytesWorld_size]; omega

theorem addO_text (s : Option (List Nat)) (l : List Nat) : addO (addO s (putN (l.length : Int) 1)) (some l) = addO s (putT l) := by
  rw [addO_assoc]
  have e : (256 : Int) ^ (1 : Int).toNat = 256 := rfl
  have e2 : addO (putN (l.length : Int) 1) (some l) = putT l := by
    unfold putN putT
    by_cases h : l.length ≤ 255
    · rw [if_pos ⟨by omega, by omega, by omega, by rw [e]; omega⟩, if_pos h]
      have h2 : wideN l.length 1 = [l.length] := by
        show [] ++ [l.length % 256] = _
        rw [Nat.mod_eq_of_lt (by omega)]; rfl
      rw [show (1 : Int).toNat = 1 from rfl, Int.toNat_natCast, h2]
      rfl
    · rw [if_neg fun e' => h (by have := e'.2.2.2; rw [e] at this; omega), if_neg h]
      rfl
  rw [e2]

theorem Fr.over {X Y : Nat → Prop} {w w1 w2 : World} (h : Fr X w w1) (k : Fr Y w1 w2) (hy : ∀ j, Y j → X j ∨ w.heap.size ≤ j) : Fr X w w2 :=
  ⟨k.os.trans h.os, k.tape.trans h.tape, k.output.trans h.output, Nat.le_trans h.size k.size, fun j hj hx => by
    rw [k.block j (Nat.lt_of_lt_of_le hj h.size) fun e => (hy j e).elim hx fun h => by omega]
    exact h.block j hj hx⟩
set_option maxRecDepth 100000 in
set_option maxHeartbeats 1000000 in
theorem outT_any (X : Nat → Prop) (w : World) (b : Nat) (s : Option (List Nat)) (q : Nat) (l : List Nat) (h : OutAt X w b s q) (hq : q ≤ 40000) (hb : IsByte l) (hl : l.length ≤ 20000) :
    Calls Tryz.prog 179 #[.pointer (some ⟨b, 0, none⟩), .string (strOf l)] w (OutPost OutAt X w b (addO s (putT l)) (q + l.length + 6)) := by
  have HN := Lib.hid (outN_any X w b s q (l.length : Int) 1 h hq ⟨by omega, by omega⟩ ⟨by omega, by omega⟩)
  have HS := Lib.hid (strOf_size l)
  have hsz := strOf_size l
  have HBY := Lib.hid hb
  have HX := Lib.hid (addO_text s l)
  clear h hb
  go_enter Tryz.func179, Tryz.ntmps179
  go_wp2_with fail
  (with_reducible refine HN.out.mono ?_)
  rintro e w1 ⟨rfl, X1, hX1, hN1, hF1⟩
  have HX1 := Lib.hid hX1
  have HN1 := Lib.hid hN1
  have HF1 := Lib.hid hF1
  obtain ⟨c, w2, hcv, hsl, hbw⟩ := conv_str w1 l HBY.out (by omega)
  have HP := Lib.hid (put_any X1 w2 b (addO s (putN (l.length : Int) 1)) (q + 6) (some ⟨w1.heap.size, 0, none⟩) c l (hX1.keep (Fr.of_below (X := fun _ => False) hbw) (fun _ _ h => h)) hsl fun r hr _ => by
    cases hr
    have := hX1.2.1 b hX1.1
    show w1.heap.size ≠ b
    omega)
  have HBW := Lib.hid hbw
  clear hX1 hN1 hF1 hsl hbw
  go_wp2_with fail
  (with_reducible refine HP.out.mono ?_)
  rintro e w3 ⟨rfl, X3, hX3, hN3, hF3⟩
  go_wp2_with fail
  go_end0
  have h1 := HF1.out.size
  have h2 := HBW.out.size
  refine ⟨rfl, X3, ?_, fun j hj => ?_, ?_⟩
  · rw [← HX.out]
    exact hX3.mono (by omega)
  · rcases hN3 j hj with h | h | ⟨r, hr, rfl⟩
    · exact HN1.out j h
    · exact .inr (by omega)
    · cases hr
      exact .inr h1
  · exact (HF1.out.trans (Fr.of_below HBW.out)).over hF3 fun j hj => HN1.out j hj

set_option maxRecDepth 100000 in
set_option maxHeartbeats 1000000 in
theorem outR_any (X : Nat → Prop) (w : World) (b : Nat) (s : Option (List Nat)) (q : Nat) (a : Option Addr) (c : Nat) (l : List Nat) (h : OutAt X w b s q) (hq : q ≤ 40000) (hs : Sl w a c l) (hl : l.length ≤ 20000) :
    Calls Tryz.prog 141 #[.pointer (some ⟨b, 0, none⟩), .slice a l.length c] w (OutPost OutAt X w b (addO s (some l)) (q + l.length)) := by
  have HC := Lib.hid (clone_new a c l w (by omega) hs)
  have H := Lib.hid h
  clear h hs
  go_enter Tryz.func141, Tryz.ntmps141
  go_wp2_with fail
  (with_reducible refine HC.out.mono ?_)
  rintro e w2 ⟨sa, sc, rfl, hsl, hnew, hbw⟩
  have HP := Lib.hid (put_any X w2 b s q sa sc l (H.out.keep (Fr.of_below (X := fun _ => False) hbw) (fun _ _ h => h)) hsl fun r hr _ => by
    have := H.out.2.1 b H.out.1
    have := hnew r hr
    omega)
  have HBW := Lib.hid hbw
  have HNW := Lib.hid hnew
  clear hsl hbw hnew HC
  go_wp2_with fail
  (with_reducible refine HP.out.mono ?_)
  rintro e w3 ⟨rfl, X3, hX3, hN3, hF3⟩
  go_wp2_with fail
  go_end0
  have h2 := HBW.out.size
  refine ⟨rfl, X3, hX3, fun j hj => ?_, (Fr.of_below HBW.out).trans hF3⟩
  rcases hN3 j hj with h | h | ⟨r, hr, rfl⟩
  · exact .inl h
  · exact .inr (by omega)
  · exact .inr (HNW.out r hr)

/-! Of nothing. -/

set_option maxRecDepth 100000 in
theorem outT_nil (w : World) : Calls Tryz.prog 179 #[.pointer none, .string (strOf [97])] w fun e w' => e = .returned (.tuple #[]) ∧ Below w.heap.size w w' := by
  have HN := Lib.hid (outN_nil w 1 1 ⟨by omega, by omega⟩ ⟨by omega, by omega⟩)
  have hsz : (strOf [97]).size = 1 := strOf_size [97]
  go_enter Tryz.func179, Tryz.ntmps179
  go_wp2_with fail
  (with_reducible refine HN.out.mono ?_)
  rintro e w1 ⟨rfl, hb1⟩
  obtain ⟨c, w2, hcv, hsl, hbw⟩ := conv_str w1 [97] (by simp [IsByte]) (by simp)
  have HP := Lib.hid (put_nil (some ⟨w1.heap.size, 0, none⟩) 1 c w2)
  have HB := Lib.hid (hb1.trans (hbw.mono hb1.size))
  have hcv2 : (convert 9 53 (.string (strOf [97]))).run Tryz.prog w1 = .ok (.slice (some ⟨w1.heap.size, 0, none⟩) 1 c) w2 := hcv
  clear hsl hbw hb1 hcv
  go_wp2_with fail
  (with_reducible refine HP.out.mono ?_)
  rintro e w3 ⟨rfl, rfl⟩
  go_wp2_with fail
  go_end0
  exact ⟨rfl, HB.out⟩
set_option maxRecDepth 100000 in
theorem outR_nil (w : World) (a : Option Addr) (c : Nat) (hs : Sl w a c [98]) : Calls Tryz.prog 141 #[.pointer none, .slice a 1 c] w fun e w' => e = .returned (.tuple #[]) ∧ Below w.heap.size w w' := by
  have HC := Lib.hid (clone_new a c [98] w (by simp) hs)
  clear hs
  go_enter Tryz.func141, Tryz.ntmps141
  go_wp2_with fail
  refine HC.out.mono ?_
  rintro e w2 ⟨sa, sc, rfl, hsl, hnew, hbw⟩
  have HP := Lib.hid (put_nil sa 1 sc w2)
  have HB := Lib.hid hbw
  clear hsl hbw hnew HC
  go_wp2_with fail
  (with_reducible refine HP.out.mono ?_)
  rintro e w3 ⟨rfl, rfl⟩
  go_wp2_with fail
  go_end0
  exact ⟨rfl, HB.out⟩
end Go.Proofs.YtfgaohilpbocbaaGreatDoor
end

section
namespace Go.Proofs.YtfgaohilpbocbaaGreatDoor
open Go.ChangeShapes Go.WideShapes Go.ChangeAt Go.RowKit Go.Joins
set_option linter.unusedVariables false

/-- An Out (block b) that has s, and beside it a row v of one's own that reads as W. -/
structure Mid (Od : (Nat → Prop) → World → Nat → Option (List Nat) → Nat → Prop) (w0 : World) (b q : Nat) (w : World) (v : Value) (s : Option (List Nat)) (W : List Nat) : Prop where
  own : OwnB w v W
  od : ∃ X, Od X w b s q ∧ ∀ j, X j → w0.heap.size ≤ j ∧ v.ownBlock ≠ some j
  low : ∀ j, v.ownBlock = some j → w0.heap.size ≤ j
  below : Below w0.heap.size w0 w
variable {Od : (Nat → Prop) → World → Nat → Option (List Nat) → Nat → Prop}
theorem Mid.later (HC : OutC Od) {w0 w w' : World} {b q : Nat} {v : Value} {s : Option (List Nat)} {W : List Nat} (h : Mid Od w0 b q w v s W) (k : Below w.heap.size w w') : Mid Od w0 b q w' v s W := by
  obtain ⟨X, h1, h2⟩ := h.od
  exact ⟨h.own.fr (Fr.of_below (X := fun _ => False) k) (fun _ _ h => h), ⟨X, HC.keep h1 (Fr.of_below (X := fun _ => False) k) (fun _ _ h => h), h2⟩, h.low, h.below.trans (k.mono h.below.size)⟩
theorem Mid.mono (HC : OutC Od) {w0 w : World} {b q q' : Nat} {v : Value} {s : Option (List Nat)} {W : List Nat} (h : Mid Od w0 b q w v s W) (hq : q ≤ q') : Mid Od w0 b q' w v s W := by
  obtain ⟨X, h1, h2⟩ := h.od
  exact ⟨h.own, ⟨X, HC.mono h1 hq, h2⟩, h.low, h.below⟩
/-- Something is put. -/
theorem Mid.put (HC : OutC Od) {w0 w : World} {b q q' : Nat} {v : Value} {s s' : Option (List Nat)} {W : List Nat} (h : Mid Od w0 b q w v s W) {f : FuncId} {args : Array Value}
    (hc : ∀ X, Od X w b s q → (∀ j, X j → w0.heap.size ≤ j) → Calls Tryz.prog f args w (OutPost Od X w b s' q')) : Calls Tryz.prog f args w fun e w' => e = .returned (.tuple #[]) ∧ Mid Od w0 b q' w' v s' W := by
  obtain ⟨X, h1, h2⟩ := h.od
  have hlt := fun j (e : v.ownBlock = some j) => (show j < w.heap.size by
    rcases h.own.2 with ⟨e1, _⟩ | ⟨g, cap, cur, e1, _, hg, _⟩
    · rw [e1] at e; cases e
    · rw [e1] at e
      cases e
      exact (Array.getElem?_eq_some_iff.1 hg).1)
  refine (hc X h1 fun j hj => (h2 j hj).1).mono ?_
  rintro e w' ⟨rfl, X', h3, h4, h5⟩
  refine ⟨rfl, h.own.fr h5 (fun j hj hX => (h2 j hX).2 hj), ⟨X', h3, fun j hj => ?_⟩, h.low, h.below.trans (h5.below h.below.size fun j hj hX => by have := (h2 j hX).1; omega)⟩
  rcases h4 j hj with h6 | h6
  · exact h2 j h6
  · have := h.below.size
    exact ⟨by omega, fun e => by have := hlt j e; omega⟩
/-- Bytes are appended to the row. -/
theorem Mid.add (HC : OutC Od) {w0 w w' : World} {b q : Nat} {v v' : Value} {s : Option (List Nat)} {W m : List Nat} (h : Mid Od w0 b q w v s W) (h1 : OwnB w' v' (W ++ m)) (h2 : w.grownBy w' v.ownBlock) (h3 : v'.ownBlock = v.ownBlock ∨ v'.ownBlock = some w.heap.size) : Mid Od w0 b q w' v' s (W ++ m) := by
  obtain ⟨X, k1, k2⟩ := h.od
  have hf : Fr (fun j => v.ownBlock = some j) w w' := Fr.of_grown h2 fun j e => e
  refine ⟨h1, ⟨X, HC.keep k1 hf fun j hj e => (k2 j hj).2 e, fun j hj => ⟨(k2 j hj).1, fun e => ?_⟩⟩, fun j hj => ?_, h.below.trans (hf.below h.below.size fun j hj e => by have := h.low j e; omega)⟩
  · rcases h3 with h4 | h4
    · rw [h4] at e; exact (k2 j hj).2 e
    · rw [h4] at e
      have := HC.lt k1 j hj
      have := Option.some.inj e
      omega
  · rcases h3 with h4 | h4
    · exact h.low j (by rw [← h4]; exact hj)
    · rw [h4] at hj
      have := Option.some.inj hj
      have := h.below.size
      omega
theorem Mid.start (HC : OutC Od) (w1 w0 : World) (k : Below w0.heap.size w0 w1) : Mid Od w0 w1.heap.size 0 (w1.alloc (.cells outZ 239)) (.slice none 0 0) (some []) [] :=
  ⟨OwnB.nil _, ⟨_, HC.zero w1, fun j hj => ⟨by have := k.size; omega, by simp [Value.ownBlock]⟩⟩, fun j hj => by simp [Value.ownBlock] at hj, k.trans (((Below.refl _ _).alloc (Nat.le_refl _) _).mono k.size)⟩
end Go.Proofs.YtfgaohilpbocbaaGreatDoor
end

section
namespace Go.Proofs.YtfgaohilpbocbaaGreatDoor
open Go.RowKit Go.Sort
set_option linter.unusedVariables false

/-- An operation that yields a value, if it yields anything. -/
def plainOp : Op → Bool
  | .move _ | .assign _ | .pick .. | .nilCheck .. | .load .. | .binOp .. | .unOp .. | .convert .. | .makeInterface .. | .slice .. | .fieldAddr .. | .field .. | .indexAddr .. | .index .. | .lookup .. | .extract .. => true
  | .call c => match c.callee with | .builtin .len | .builtin .min | .builtin .max => true | _ => false
  | _ => false

section
variable {P : Program} {ops : Array Oper} {Q : Exit → Act → World → Prop} {C : World → Prop}

theorem run_value {s : Sem Value} {w w' : World} {n : Next} (h : (do pure (Next.value (← s)) : Sem Next).run P w = .ok n w') : ∃ v, n = .value v := by
  rw [Sem.run_bind] at h
  cases hs : s.run P w with
  | ok x w1 =>
    rw [hs] at h
    simp only [Result.andThen, Sem.run_pure] at h
    cases h
    exact ⟨_, rfl⟩
  | halt x w1 =>
    rw [hs] at h
    simp [Result.andThen] at h

theorem val_bind {β : Type} {s : Sem β} {f : β → Sem Next} (hf : ∀ b w1 w2 n, (f b).run P w1 = .ok n w2 → ∃ v, n = .value v) {w w' : World} {n : Next} (h : (s >>= f).run P w = .ok n w') : ∃ v, n = .value v := by
  rw [Sem.run_bind] at h
  cases hs : s.run P w with
  | ok x w1 =>
    rw [hs] at h
    exact hf x w1 w' n h
  | halt x w1 =>
    rw [hs] at h
    simp [Result.andThen] at h
theorem val_pure {v : Value} {w w' : World} {n : Next} (h : (pure (Next.value v) : Sem Next).run P w = .ok n w') : ∃ v, n = .value v := by
  rw [Sem.run_pure] at h; cases h; exact ⟨_, rfl⟩

theorem plain_value {o : Oper} {ρ : Operand → Value} {w w' : World} {n : Next} (hp : plainOp o.op = true) (h : (execOp ρ o).run P w = .ok n w') : ∃ v, n = .value v := by
  obtain ⟨dst, op, type, pos, after, guard⟩ := o
  cases op <;> simp only [plainOp, Bool.false_eq_true] at hp <;> simp only [execOp] at h
  case move x => rw [Sem.run_pure] at h; cases h; exact ⟨_, rfl⟩
  case assign x => rw [Sem.run_pure] at h; cases h; exact ⟨_, rfl⟩
  case nilCheck x =>
    split at h
    · simp [runtimePanic, goPanic, go_sem] at h
    · simp [runtimePanic, goPanic, go_sem] at h
    · simp [runtimePanic, goPanic, go_sem] at h
    · split at h
      · simp [runtimePanic, goPanic, go_sem] at h
      · refine val_bind (fun b w1 w2 n h => ?_) h
        refine val_bind (fun b w1 w2 n h => ?_) h
        split at h
        · exact val_bind (fun b w1 w2 n h => val_pure h) h
        · exact val_pure h
      · exact val_pure h
    · exact val_pure h
  case call c =>
    cases hc : c.callee <;> simp only [hc, Bool.false_eq_true] at hp
    rename_i b
    cases b <;> simp only [Bool.false_eq_true] at hp
    all_goals simp only [resolve, hc] at h
    all_goals first | exact run_value (s := Builtin.len_ _ _ _) h | exact run_value (s := Builtin.min_ _ _ _) h | exact run_value (s := Builtin.max_ _ _ _) h
  case pick x y z =>
    rw [Sem.run_bind] at h
    cases hs : (asBool (ρ x)).run P w with
    | ok q w1 =>
      rw [hs] at h
      simp only [Result.andThen, Sem.run_pure] at h
      cases h
      exact ⟨_, rfl⟩
    | halt q w1 =>
      rw [hs] at h
      simp [Result.andThen] at h
  all_goals exact run_value h

/-- The operations of this list may come up one behind the other, each apart from all that don't wait for it, each plain. -/
def takesB (ops : Array Oper) : List Nat → Array Bool → Bool
  | [], _ => true
  | i :: is, listed => (Region.ready .any ops listed).contains i && Region.free .any ops listed i && ((ops[i]?).map fun o => plainOp o.op).getD false && takesB ops is (listed.setIfInBounds i true)
def marks : List Nat → Array Bool → Array Bool
  | [], listed => listed
  | i :: is, listed => marks is (listed.setIfInBounds i true)
def opsAt (ops : Array Oper) : List Nat → List Oper
  | [] => []
  | i :: is => match ops[i]? with
    | some o => o :: opsAt ops is
    | none => opsAt ops is

theorem yieldsIf_of_quiet {o : Oper} {a : Act} {v : Value} (hp : plainOp o.op = true) (hw : Region.wanted o (yielded ops a.tmps) = true) (h : ∀ w, C w → o.quietAt P a C w v) : YieldsIf P ops C o v a := by
  refine .inl ⟨hw, fun w hC => ?_⟩
  have h1 := h w hC
  unfold Oper.quietAt at h1
  cases hr : (execOp a.eval o).run P w with
  | ok n w' =>
    rw [hr] at h1
    obtain ⟨u, rfl⟩ := plain_value hp hr
    simp only [Oper.quietUpon] at h1
    rw [h1.1, h1.2]
  | halt x w' =>
    rw [hr] at h1
    simp only [Oper.quietUpon] at h1

/-- Plain operations, as soon as they may come up. -/
theorem grow_take (hs : Region.noSelect ops = true) : ∀ (is : List Nat) (n : Nat) (listed : Array Bool) (a : Act), takesB ops is listed = true →
    wpQuiet P ops C (fun a' => ∀ w, C w → wpAnyH P .any ops (NoPanic Q) C n (marks is listed) a' w) (opsAt ops is) a → ∀ w, C w → wpAnyH P .any ops (NoPanic Q) C (n + is.length) listed a w
  | [], n, listed, a, _, h, w, hw => h w hw
  | i :: is, n, listed, a, hB, h, w, hw => by
    simp only [takesB, Bool.and_eq_true] at hB
    obtain ⟨⟨⟨hr, hf⟩, hp⟩, hB'⟩ := hB
    cases ho : ops[i]? with
    | none => rw [ho] at hp; simp at hp
    | some o =>
      rw [ho] at hp
      have hp' : plainOp o.op = true := by simpa using hp
      simp only [opsAt, ho, wpQuiet] at h
      have key : ∃ v, YieldsIf P ops C o v a ∧ wpQuiet P ops C (fun a' => ∀ w, C w → wpAnyH P .any ops (NoPanic Q) C n (marks is (listed.setIfInBounds i true)) a' w) (opsAt ops is) (a.put o.dst v) := by
        by_cases hwt : Region.wanted o (yielded ops a.tmps) = true
        · rw [if_pos hwt] at h
          obtain ⟨v, h1, h2⟩ := h
          exact ⟨v, yieldsIf_of_quiet hp' hwt h1, h2⟩
        · rw [if_neg hwt] at h
          exact ⟨undef, .inr ⟨by simpa using hwt, rfl⟩, h⟩
      obtain ⟨v, hy, hq⟩ := key
      exact wpAnyH_take ho hs hf hr (fun _ _ _ h => h) hy hw (grow_take hs is n (listed.setIfInBounds i true) (a.put o.dst v) hB' hq w hw)

/-- To know more is no harm. -/
theorem wpAnyH_strong {C' : World → Prop} (h : ∀ w, C' w → C w) : ∀ (n : Nat) (listed : Array Bool) (a : Act) (w : World), wpAnyH P .any ops Q C' n listed a w → wpAnyH P .any ops Q C n listed a w
  | 0, _, _, _, hh => hh
  | n + 1, _, _, _, hh => ⟨hh.1, fun i hi => wpOp_mono (fun a' w' ⟨h1, h2⟩ => ⟨h _ h1, wpAnyH_strong h n _ a' w' h2⟩) (hh.2 i hi)⟩

/-- All worlds that come out of w by making memory. -/
def upOf (w : World) (w' : World) : Prop := ∃ p : Regrown, w' = grow (redrawn w p.d) p.os

theorem up_of_below {w w' : World} (h : Below w.heap.size w w') : ∃ p : Regrown, w' = grow (redrawn w p.d) p.os := regrown_of_below h
theorem below_of_up {w w' : World} (h : ∃ p : Regrown, w' = grow (redrawn w p.d) p.os) : Below w.heap.size w w' := by
  obtain ⟨p, rfl⟩ := h
  exact below_regrown w p.d p.os

/-- The beginning. -/
theorem grow_begin {id : Nat} {a : Act} {w : World} {l : List Oper} (hm : P.follows .mixedOrders = true)
    (h : ∀ w', (∃ p : Regrown, w' = grow (redrawn w p.d) p.os) → wpAnyH P .any l.toArray (NoPanic Q) (fun w' => ∃ p : Regrown, w' = grow (redrawn w p.d) p.os) l.length (Array.replicate l.length false) a w') : (Code.region id l.toArray true).wp P Q a w := by
  refine wp_region_noPanic (wp_region_held_drew (S := fun w' => ∃ p : Regrown, w' = grow (redrawn w p.d) p.os) hm ?_ fun hS => ?_)
  · exact regrown_of_below ((Below.refl _ _).drew)
  · have := h w.drew hS
    simpa using this

/-- What is asked of operation o. -/
def stepOf (P : Program) (ops : Array Oper) (Q : Exit → Act → World → Prop) (K : Act → World → Prop) (a : Act) (w : World) : Option Oper → Prop
  | none => False
  | some o => if Region.wanted o (yielded ops a.tmps) = true then Oper.wp P o a w K Q else K (a.put o.dst undef) w

/-- Whichever of those that may come up comes up: behind it the worlds are those that come out of the world there. -/
theorem grow_all (rs : List Nat) {n : Nat} {listed : Array Bool} {a : Act} {w0 w : World} (hr : Region.ready .any ops listed = rs) (hne : rs ≠ []) (hw : ∃ p : Regrown, w = grow (redrawn w0 p.d) p.os)
    (h : ∀ i ∈ rs, ∀ K : Act → World → Prop, Shut (∀ a' w1, Below w.heap.size w w1 → (∀ w', (∃ p : Regrown, w' = grow (redrawn w1 p.d) p.os) → wpAnyH P .any ops (NoPanic Q) (fun w' => ∃ p : Regrown, w' = grow (redrawn w1 p.d) p.os) n (listed.setIfInBounds i true) a' w') → K a' w1) →
      stepOf P ops (NoPanic Q) K a w ops[i]?) : wpAnyH P .any ops (NoPanic Q) (fun w' => ∃ p : Regrown, w' = grow (redrawn w0 p.d) p.os) (n + 1) listed a w := by
  refine wpAnyH_all hr hne fun j hj => ?_
  have hb0 := below_of_up hw
  have hs := h j hj (fun a' w' => (∃ p : Regrown, w' = grow (redrawn w0 p.d) p.os) ∧ wpAnyH P .any ops (NoPanic Q) (fun w' => ∃ p : Regrown, w' = grow (redrawn w0 p.d) p.os) n (listed.setIfInBounds j true) a' w') (fun a' w1 hb hh => by
    have hb1 : Below w0.heap.size w0 w1 := hb0.trans (hb.mono hb0.size)
    exact ⟨regrown_of_below hb1, wpAnyH_strong (fun w' hw' => regrown_of_below (hb1.trans ((below_of_up hw').mono hb1.size))) _ _ _ _ (hh w1 (regrown_of_below (Below.refl _ _)))⟩)
  unfold wpOp
  cases ho : ops[j]? with
  | none => rw [ho] at hs; exact hs.elim
  | some o =>
    rw [ho] at hs
    simp only [stepOf] at hs
    show if Region.wanted o (yielded ops a.tmps) = true then _ else _
    by_cases hwt : Region.wanted o (yielded ops a.tmps) = true
    · rw [if_pos hwt] at hs ⊢; exact .inl hs
    · rw [if_neg hwt] at hs ⊢; exact hs

/-- One operation that alone may come up. -/
theorem grow_one (i : Nat) {n : Nat} {listed : Array Bool} {a : Act} {w0 w : World} (hr : Region.ready .any ops listed = [i]) (hw : ∃ p : Regrown, w = grow (redrawn w0 p.d) p.os)
    (h : ∀ K : Act → World → Prop, Shut (∀ a' w1, Below w.heap.size w w1 → (∀ w', (∃ p : Regrown, w' = grow (redrawn w1 p.d) p.os) → wpAnyH P .any ops (NoPanic Q) (fun w' => ∃ p : Regrown, w' = grow (redrawn w1 p.d) p.os) n (listed.setIfInBounds i true) a' w') → K a' w1) →
      stepOf P ops (NoPanic Q) K a w ops[i]?) : wpAnyH P .any ops (NoPanic Q) (fun w' => ∃ p : Regrown, w' = grow (redrawn w0 p.d) p.os) (n + 1) listed a w :=
  grow_all [i] hr (by simp) hw fun j hj => by
    obtain rfl : j = i := by simpa using hj
    exact h

/-- All have come up. -/
theorem grow_done {n : Nat} {listed : Array Bool} {a : Act} {w0 w : World} (hr : Region.ready .any ops listed = []) (h : Q .normal a w) : wpAnyH P .any ops (NoPanic Q) (fun w' => ∃ p : Regrown, w' = grow (redrawn w0 p.d) p.os) n listed a w :=
  wpAnyH_done hr (NoPanic.normal h) n

end
end Go.Proofs.YtfgaohilpbocbaaGreatDoor
end
