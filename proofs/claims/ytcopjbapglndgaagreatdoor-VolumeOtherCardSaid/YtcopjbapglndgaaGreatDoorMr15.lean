/-
  A set's directory, plainly; packets that are built.
  Package packet's named: a directory's name.
  Packets written one behind the other: volume.written.
  The shelf's contracts on strings.Split and strings.HasSuffix, laid at this dump.
  Package rule: whether a name may have a byte; whether a file may have a name.
  Package rule: whether a file may have a name.
-/
import Derived.Test.YtcopjbapglndgaaGreatDoorMr14
import Derived.Shelf.Strings.SplitShaped
import Derived.Shelf.Strings.Prefix
import Derived.Test.YtcopjbapglndgaaGreatDoorRows
import Derived.Deep.DeepCutAuto
import Derived.Deep.CutRange
import Derived.Deep.CutBlock
section
namespace Go.Proofs.YtcopjbapglndgaaGreatDoor
open Go.ChangeShapes Go.WideShapes Go.ChangeAt Go.RowKit Go.Joins
set_option linter.unusedVariables false

def z8 : List Nat := List.replicate 8 0
def mainP (S : St) : Pk := ⟨z8, 1, S.slice, S.files.length, S.slices.length, 0, zFil, [], 0, []⟩
def fileP (i : Nat) (f : Fil) : Pk := ⟨z8, 2, 0, 0, 0, i, f, [], 0, []⟩
def sumsP (i : Nat) (l : List Sm) : Pk := ⟨z8, 3, 0, 0, 0, i, zFil, l, 0, []⟩
/-- What is known of file k's slices. -/
def partS (S : St) (k : Nat) : List Sm := (S.slices.drop (S.files.getD k zFil).first.toNat).take (cntN (S.files.getD k zFil).size S.slice)
/-- The directory of the first k files. -/
def dirTo (S : St) : Nat → List Pk
  | 0 => [mainP S]
  | k + 1 => dirTo S k ++ [fileP k (S.files.getD k zFil), sumsP k (partS S k)]
theorem dirTo_len (S : St) : ∀ k, (dirTo S k).length = 2 * k + 1
  | 0 => rfl
  | k + 1 => by rw [dirTo, List.length_append, dirTo_len S k]; simp; omega
theorem built_main (s f n : Int) : Tryz.prog.built 75 [(1, .int .i64 1), (2, .int .i64 s), (3, .int .i64 f), (4, .int .i64 n)] = some (rowArr 51 (pkV ⟨z8, 1, s, f, n, 0, zFil, [], 0, []⟩ none 0 none 0)) := by kernel_rfl
theorem built_file (i : Int) (V : Nat → Value) : Tryz.prog.built 75 [(1, .int .i64 2), (5, .int .i64 i), (6, .agg (rowArr 35 V))] = some (rowArr 51 fun j => if 13 ≤ j ∧ j < 48 then V (j - 13) else pkV ⟨z8, 2, 0, 0, 0, i, zFil, [], 0, []⟩ none 0 none 0 j) := by kernel_rfl
theorem built_sums (i : Int) (sa : Option Addr) (n sc : Nat) : Tryz.prog.built 75 [(1, .int .i64 3), (5, .int .i64 i), (7, .slice sa n sc)] = some (rowArr 51 fun j => if j = 48 then .slice sa n sc else pkV ⟨z8, 3, 0, 0, 0, i, zFil, [], 0, []⟩ none 0 none 0 j) := by kernel_rfl
theorem builtS_one (V : Nat → Value) : Tryz.prog.builtSlice 75 1 [(0, .agg (rowArr 51 V))] = some (rowArr 51 V) := by kernel_rfl
theorem builtS_two (V U : Nat → Value) : Tryz.prog.builtSlice 75 2 [(0, .agg (rowArr 51 V)), (1, .agg (rowArr 51 U))] = some (rowArr 102 fun j => if j < 51 then V j else U (j - 51)) := by kernel_rfl
theorem rowArr_congr {n : Nat} {F G : Nat → Value} (h : ∀ j, j < n → F j = G j) : rowArr n F = rowArr n G := by
  unfold rowArr
  congr 1
  exact List.map_congr_left fun j hj => h j (List.mem_range.1 hj)
theorem built_file2 (i : Nat) (f : Fil) : Tryz.prog.built 75 [(1, .int .i64 2), (5, .int .i64 (i : Int)), (6, .agg (rowArr 35 (filV f)))] = some (rowArr 51 (pkV (fileP i f) none 0 none 0)) := by
  rw [built_file]
  refine congrArg some (rowArr_congr fun j hj => ?_)
  by_cases h : 13 ≤ j ∧ j < 48
  · rw [if_pos h, pkV_fil _ _ _ _ _ h.1 h.2]; rfl
  · rw [if_neg h]
    unfold pkV fileP
    by_cases h1 : j < 13
    · (repeat' split) <;> first | rfl | omega
    · (repeat' split) <;> first | rfl | omega
theorem built_sums2 (i : Nat) (l : List Sm) (sa : Option Addr) (sc : Nat) : Tryz.prog.built 75 [(1, .int .i64 3), (5, .int .i64 (i : Int)), (7, .slice sa l.length sc)] = some (rowArr 51 (pkV (sumsP i l) sa sc none 0)) := by
  rw [built_sums]
  refine congrArg some (rowArr_congr fun j hj => ?_)
  by_cases h : j = 48
  · subst h; rfl
  · rw [if_neg h]
    unfold pkV sumsP
    (repeat' split) <;> first | rfl | omega
/-- Operations of statements that leave their order open. -/
theorem op_build {o : Oper} {a : Act} {w : World} {K : Act → World → Prop} {Q : Exit → Act → World → Prop} (t : TypeId) (parts : Array (Nat × Operand)) (ho : o.op = .build t parts)
    (cells : Array Value) (he : Tryz.prog.built t (parts.map fun (i, x) => (i, a.eval x)).toList = some cells) (h : K (a.put o.dst (.agg cells)) w) : o.wp Tryz.prog a w K Q :=
  wp_build t parts ho (by rw [he]; rfl) (by rw [he]; exact h)
theorem op_push_p {o : Oper} {a : Act} {K : Act → World → Prop} {Q : Exit → Act → World → Prop} (w : World) (s x : Operand)
    (ho : o.op = .call { callee := .builtin .append, args := #[s, x], argTypes := #[68, 68] })
    (B : Nat) (v : Value) (l : List Pw) (hs : a.eval s = v) (hown : OwnP B w v l) (g off m c : Nat) (hx : a.eval x = .slice (some ⟨g, off, none⟩) m c)
    (F : List Pw) (hm : F.length = m) (hc : ∀ i (h : i < F.length) k, k < 51 → w.cell? ⟨g, off + i * 51 + k, none⟩ = some (pwV F[i] k)) (hB : B ≤ w.heap.size) (hlen : l.length ≤ 1000000) (hlm : m ≤ 1000000)
    (h : ∀ v' w', Hid (OwnP B w' v' (l ++ F)) → Hid (w.grownBy w' v.ownBlock) → Hid (v'.ownBlock = v.ownBlock ∨ v'.ownBlock = some w.heap.size) → K (a.put o.dst v') w') : o.wp Tryz.prog a w K Q := by
  obtain ⟨i0, z, hi, hz0, hzs, hz1, hz2⟩ := infoP_q
  have hn : ∀ j u, (encP F)[j]? = some u → w.cell? ((⟨g, off, none⟩ : Addr).add j) = some u := fun j u hj => by
    have hjl : j < F.length * 51 := by
      have := (List.getElem?_eq_some_iff.1 hj).1
      rw [encP_len] at this
      exact this
    have hi2 : j / 51 < F.length := by omega
    have hk2 : j % 51 < 51 := Nat.mod_lt _ (by omega)
    have e : j / 51 * 51 + j % 51 = j := by omega
    have h1 := encP_get hi2 hk2
    rw [e, hj] at h1
    have h2 := hc (j / 51) hi2 (j % 51) hk2
    rw [addr_add, show off + j = off + j / 51 * 51 + j % 51 by omega, h2, Option.some.inj h1]
  obtain ⟨v', w', hr, k1, k2, _, k5⟩ := run_append_own_at (P := Tryz.prog) w B 68 o.type 75 i0 z 51 168 Tryz.underlying68 hi hz0 hz1 hz2 hzs (by decide) v l.length _ hown ⟨g, off, none⟩ m c (encP F) (by rw [encP_len, hm]) hn (encP_one F) (by unfold maxLen; omega) (by omega) hB
  unfold Oper.wp execOp
  simp only [ho, resolve, invoke, builtin, Sem.run_bind, Sem.run_pure, Result.andThen_ok, List.map_toArray, List.map_cons, List.map_nil, hs, hx, hr]
  refine h _ _ ?_ k2 k5
  show OwnP B w' v' (l ++ F)
  unfold OwnP
  rw [List.length_append, encP_app, hm]
  exact k1
end Go.Proofs.YtcopjbapglndgaaGreatDoor
end

section
namespace Go.Proofs.YtcopjbapglndgaaGreatDoor
open Go.ChangeShapes Go.WideShapes Go.ChangeAt Go.RowKit Go.Joins
set_option linter.unusedVariables false

/-- All that packets tell. -/
def allN (l : List Pk) : List Nat := (l.map fun p => kbN p.kind (pkBody p)).flatten
def costN (l : List Pk) : Nat := (l.map tellQ).sum
def nameOf (l : List Pk) : List Nat := (dgN (allN l)).take 8
theorem allN_next {l : List Pk} {k : Nat} (h : k < l.length) : allN (l.take (k + 1)) = allN (l.take k) ++ kbN l[k].kind (pkBody l[k]) := by
  unfold allN
  rw [List.take_succ_eq_append_getElem h, List.map_append, List.flatten_append]
  simp
theorem costN_next {l : List Pk} {k : Nat} (h : k < l.length) : costN (l.take (k + 1)) = costN (l.take k) + tellQ l[k] := by
  unfold costN
  rw [List.take_succ_eq_append_getElem h, List.map_append, List.sum_append]
  simp
theorem costN_le {l : List Pk} (k : Nat) : costN (l.take k) ≤ costN l := by
  unfold costN
  conv => rhs; rw [← List.take_append_drop k l, List.map_append, List.sum_append]
  omega
theorem costN_one {l : List Pk} {k : Nat} (h : k < l.length) : costN (l.take k) + tellQ l[k] ≤ costN l := by rw [← costN_next h]; exact costN_le _
theorem allN_len {l : List Pk} (h : ∀ p ∈ l, PkIn p ∧ pkOk p) : (allN l).length ≤ costN l := by
  induction l with
  | nil => simp [allN, costN]
  | cons p l ih =>
    have h1 := ih fun q hq => h q (by simp [hq])
    have h2 := tell_len (h p (by simp)).1 (h p (by simp)).2
    unfold allN costN at h1 ⊢
    simp only [List.map_cons, List.flatten_cons, List.length_append, List.sum_cons]
    omega
theorem nameOf_len (l : List Pk) : (nameOf l).length = 8 := by unfold nameOf; rw [List.length_take, dgN_len]; rfl
theorem nameOf_byte (l : List Pk) : IsByte (nameOf l) := fun n hn => dgN_byte _ n (List.mem_of_mem_take hn)
theorem arrayAt8 (b : Nat) : ∀ W, (Instr.arrayAt 40 (.slice (some ⟨b, 0, none⟩) 8 32)).run Tryz.prog W = .ok (.pointer (some ⟨b, 0, none⟩)) W := fun W => by kernel_rfl
def z8A : Array Value := #[.int .u8 0, .int .u8 0, .int .u8 0, .int .u8 0, .int .u8 0, .int .u8 0, .int .u8 0, .int .u8 0]
set_option maxRecDepth 1000000 in
set_option maxHeartbeats 8000000 in
theorem named_any (pa : Option Addr) (pc : Nat) (F : List Pw) (w : World) (hs : PkSl w pa pc F) (hok : ∀ f ∈ F, pkOk f.p) (hl : F.length ≤ 1000) (hq : costN (F.map (·.p)) ≤ 20000)
    (hnm : ∀ f ∈ F, f.p.file.name.length ≤ 20000) (hdt : ∀ f ∈ F, f.p.data.length ≤ 20000) (ht : Tabs w) :
    Calls Tryz.prog 49 #[.slice pa F.length pc] w fun e w' => e = .returned (.agg (rowArr 8 (vOf (nameOf (F.map (·.p)))))) ∧ Below w.heap.size w w' := by
  have mixed : Tryz.prog.follows .mixedOrders = true := by kernel_rfl
  have hlm := hs.lt
  have hb0 : Below w.heap.size w (w.alloc (.cells z8A 40)) := (Below.refl _ _).alloc (Nat.le_refl _) _
  have HB0 := Lib.hid hb0
  have HZ0 : Hid ((w.alloc (.cells z8A 40)).heap[w.heap.size]? = some (.cells z8A 40 (0, 0))) := heap_alloc_last w _
  have HS := Lib.hid (hs.below hb0)
  have HT := Lib.hid (ht.below hb0)
  have HOK := Lib.hid hok
  have HNM := Lib.hid hnm
  have HDT := Lib.hid hdt
  have HQ := Lib.hid hq
  obtain ⟨A3, hA3⟩ : ∃ A3, A3 = rowArr 8 (vOf (nameOf (F.map (·.p)))) := ⟨_, rfl⟩
  rw [← hA3]
  have HA3 := Lib.hid hA3
  clear hs hok hq hnm hdt ht hb0 hA3
  go_enter Tryz.func49, Tryz.ntmps49
  go_upto_region 2 with fail
  change Code.wp _ _ _ _ ((w.alloc (.cells z8A 40)).alloc (.cells outZ 122))
  obtain ⟨w1, hw1⟩ : ∃ w1, w1 = w.alloc (.cells z8A 40) := ⟨_, rfl⟩
  have hs1 : w1.heap.size = w.heap.size + 1 := by rw [hw1]; simp
  rw [← hw1] at HB0 HZ0 HS HT ⊢
  rw [← hs1]
  clear hw1
  have hE : EnSt w1 w1.heap.size (some []) 0 (w1.alloc (.cells outZ 122)) := ⟨⟨_, OutAt.zero w1, fun k hk => by have h2 : k = w1.heap.size := hk; omega⟩, (Below.refl _ _).alloc (Nat.le_refl _) _⟩
  have HE0 : Hid (EnSt w1 w1.heap.size (some (allN ((F.map (·.p)).take 0))) (costN ((F.map (·.p)).take 0)) (w1.alloc (.cells outZ 122))) := hE
  obtain ⟨R, hR⟩ : ∃ R, R = w.heap.size := ⟨_, rfl⟩
  have hwR : w.heap.size ≤ R := by omega
  have hRw : R < w1.heap.size := by omega
  rw [← hR] at HZ0 ⊢
  obtain ⟨tb, htb⟩ : ∃ tb, tb = w1.heap.size := ⟨_, rfl⟩
  rw [← htb] at HE0 ⊢
  generalize w1.alloc (.cells outZ 122) = w2 at *
  clear hE hs1 hR htb
  have hfl : (F.map (·.p)).length = F.length := by simp
  have HFL := Lib.hid hfl
  clear hfl
  go_wp2_with fail
  go_loopw [11] (fun i wr => ∃ k : Nat, k ≤ F.length ∧ i = .int .i64 k ∧ Hid (EnSt w1 tb (some (allN ((F.map (·.p)).take k))) (costN ((F.map (·.p)).take k)) wr)) (fun i _ => F.length - (intOf i).toNat)
  case atStart => exact ⟨0, by omega, rfl, HE0⟩
  case round =>
    obtain ⟨k, hk, rfl, HE⟩ := hrel
    clear HE0
    by_cases hlt : k < F.length
    · have hPk := (HS.out.below HE.out.below)
      obtain ⟨pb, off, rfl, hbl, hx⟩ := pks_one hPk hlt
      have hpk := hPk.pks _ (List.getElem_mem hlt)
      have hpk1 := HS.out.pks _ (List.getElem_mem hlt)
      have hok := HOK.out _ (List.getElem_mem hlt)
      have hnm := HNM.out _ (List.getElem_mem hlt)
      have hdt := HDT.out _ (List.getElem_mem hlt)
      have hlt2 : k < (F.map (·.p)).length := by rw [HFL.out]; exact hlt
      have hg : (F.map (·.p))[k] = (F[k]).p := by simp
      have hc1 := costN_one hlt2
      have hn1 := allN_next hlt2
      have hn2 := costN_next hlt2
      rw [hg] at hc1 hn1 hn2
      have hq := HQ.out
      obtain ⟨f, hf⟩ : ∃ f, f = F[k] := ⟨_, rfl⟩
      rw [← hf] at hx hpk hpk1 hok hnm hdt hc1 hn1 hn2
      have HXC := Lib.hid hx
      have HPK := Lib.hid hpk
      have HPK1 := Lib.hid hpk1
      have HN1 := Lib.hid hn1
      have HN2 := Lib.hid hn2
      have HOKF := Lib.hid hok
      obtain ⟨AQ, hAQ⟩ : ∃ AQ, AQ = rowArr 51 (pwV f) := ⟨_, rfl⟩
      have VA : Hid (rowArr 51 (pwV f) = AQ) := hAQ.symm
      have HAS : Hid (AQ.size = 51) := by show _ = _; rw [hAQ, rowArr_size]
      have HA1 : Hid (AQ.all (·.oneCell') = true) := by show _ = _; rw [hAQ]; exact oneCell_pk _ _ _ _ _
      have HALL : Hid (∀ c : Array Value, (wr.alloc (.cells c 75)).heap[wr.heap.size]? = some (.cells c 75 (0, 0))) := fun c => heap_alloc_last wr _
      have HALB : Hid (∀ c : Array Value, Below wr.heap.size wr (wr.alloc (.cells c 75))) := fun c => (Below.refl _ _).alloc (Nat.le_refl _) _
      have hcst : costN ((F.map (·.p)).take k) + tellQ f.p ≤ 20000 := by omega
      have HCST := Lib.hid hcst
      clear hx hpk hpk1 hok hf hAQ hg hc1 hn1 hn2 hPk hcst
      go_upto_region 5 with (first
        | (refine wpList_load_v (by rfl) 75 _ rfl pb (off + k * 51) 51 _ AQ VA.out rfl _ HXC.out Tryz.underlying75 rfl (by kernel_rfl) ?_)
        | (refine wpList_store_arr rfl 75 _ _ rfl wr.heap.size AQ rfl rfl 75 _ (HALL.out _) (by rw [HAS.out]; kernel_rfl) (by rw [HAS.out]; rfl) HA1.out ?_; intro w7 HC7 hf7; have HB67 : Hid (Below wr.heap.size wr w7) := (HALB.out _).trans (hf7.out.below (HALB.out _).size (fun k hk e => by omega)); clear hf7 HALL HALB))
      have HE7 := Lib.hid (HE.out.later HB67.out)
      have HP7 := Lib.hid (HPK.out.below HB67.out)
      obtain ⟨g, hgg⟩ : ∃ g, g = wr.heap.size := ⟨_, rfl⟩
      rw [← hgg] at HC7
      rw [← hgg]
      clear hgg HB67 HE HXC HPK
      have hq2 : 100 + f.p.file.name.length + 44 * f.p.sums.length + f.p.data.length ≤ 20000 := by have h1 := HCST.out; unfold tellQ at h1; omega
      have HTL : Hid (Calls Tryz.prog 71 #[.pointer (some ⟨tb, 0, none⟩), .agg AQ] w7 fun e w' => e = .returned (.tuple #[]) ∧ EnSt w1 tb (some (allN ((F.map (·.p)).take (k + 1)))) (costN ((F.map (·.p)).take (k + 1))) w') := by
        obtain ⟨X, h1, h2⟩ := HE7.out.out
        have := tell_any X w7 tb _ _ f.p f.sa f.sc f.da f.dc h1 HP7.out (fun e r hr hX => by
          have h3 := h2 _ hX
          rcases HPK1.out.sums.here with h | ⟨b', o', h, h4, _⟩
          · exact e h
          · rw [h] at hr; cases hr; have h5 : w1.heap.size ≤ b' := h3; omega) (fun e r hr hX => by
          have h3 := h2 _ hX
          have := HPK1.out.data.blk r hr e
          omega) (by have := HCST.out; omega) hnm hdt
        rw [show rowArr 51 (pkV f.p f.sa f.sc f.da f.dc) = AQ from VA.out] at this
        refine this.mono ?_
        rintro e w' ⟨rfl, X', o, hx, fr⟩
        have hbel := HE7.out.below
        refine ⟨rfl, ⟨X', ?_, fun j hj => ?_⟩, hbel.trans (fr.below hbel.size fun j hj hX => by have := h2 j hX; omega)⟩
        · rw [tell_addO, (tell_ok HPK1.out.okk HOKF.out).2] at o
          rw [HN1.out, HN2.out]
          exact o
        · rcases hx j hj with h3 | h3
          · exact h2 j h3
          · have := hbel.size; omega
      clear HE7 HP7 HN1 HN2 HOKF HCST hq2 HPK1
      go_wp2_with (first
        | (refine wpList_load_row rfl 75 _ rfl g rfl 75 AQ (0, 0) _ HC7.out Tryz.underlying75 rfl (by rw [HAS.out]; kernel_rfl) ?_)
        | (go_at_call 71; (with_reducible refine HTL.out.mono ?_); rintro e w8 ⟨rfl, hE8⟩; have HE8 := Lib.hid hE8; clear hE8))
      go_roundw
      case rel => exact ⟨k + 1, by omega, by go_num, HE8⟩
      case measure => simp [intOf]; omega
    · obtain rfl : k = F.length := by omega
      have hall : (F.map (·.p)).take F.length = F.map (·.p) := List.take_of_length_le (by rw [HFL.out]; exact Nat.le_refl _)
      rw [hall] at HE
      obtain ⟨X, h1, h2⟩ := HE.out.out
      have hq := HQ.out
      have hall2 : ∀ p ∈ F.map (·.p), PkIn p ∧ pkOk p := fun p hp => by
        obtain ⟨f, hf, rfl⟩ := List.mem_map.1 hp
        exact ⟨(HS.out.pks f hf).okk, HOK.out f hf⟩
      have hlen := allN_len hall2
      obtain ⟨T, hT⟩ : ∃ T, T = allN (F.map (·.p)) := ⟨_, rfl⟩
      obtain ⟨D, hD⟩ : ∃ D, D = dgN T := ⟨_, rfl⟩
      have hDl := dgN_len T
      have hDb := dgN_byte T
      have hnn : nameOf (F.map (·.p)) = D.take 8 := by unfold nameOf; rw [hD, hT]
      rw [← hT] at h1 hlen
      rw [← hD] at hDl hDb
      have HNN := Lib.hid hnn
      have HEN := Lib.hid (end_ok X wr tb T _ h1 (by omega))
      have HBW := Lib.hid HE.out.below
      have HDE := Lib.hid hD
      have HDL := Lib.hid hDl
      have HDB := Lib.hid hDb
      have hT6 : T.length ≤ 1000000 := by omega
      clear hall HE h1 h2 hall2 hlen hT hD hDl hDb hnn HS HOK HNM HDT HQ
      go_upto_region 8 with (go_at_call 72; (with_reducible refine HEN.out.mono ?_); rintro e w3 ⟨a1, c1, rfl, hs3, hb3⟩; have HS3 := Lib.hid hs3; have HB3 := Lib.hid (HBW.out.trans (hb3.mono HBW.out.size)); clear hs3 hb3)
      have hlm3 := HS3.out.lt
      have hcm3 : c1 ≤ 9223372036854775807 := by have := HS3.out.most; unfold maxLen at this; omega
      have HDG := Lib.hid (digest_sl a1 c1 T w3 HS3.out hT6 (HT.out.below HB3.out))
      rw [← HDE.out] at HDG
      clear HEN HBW
      go_upto_region 9 with (first
        | (go_at_call 20; (with_reducible refine HDG.out.mono ?_); rintro e w6 ⟨rfl, b6⟩; have HB6 := Lib.hid (HB3.out.trans (b6.mono HB3.out.size)); clear b6 HDG; have HALL : Hid (∀ c : Array Value, (w6.alloc (.cells c 55)).heap[w6.heap.size]? = some (.cells c 55 (0, 0))) := (fun c => heap_alloc_last w6 _); have HALB : Hid (∀ c : Array Value, Below w6.heap.size w6 (w6.alloc (.cells c 55))) := (fun c => (Below.refl _ _).alloc (Nat.le_refl _) _))
        | (refine wpList_store_arr rfl 55 _ _ rfl w6.heap.size (rowArr 32 (vOf D)) rfl rfl 55 _ (HALL.out _) (by rw [rowArr_size]; kernel_rfl) (by rw [rowArr_size]; rfl) (oneCell_v D 32) ?_; intro w7 HC7 hf7; have HB67 : Hid (Below w6.heap.size w6 w7) := (HALB.out _).trans (hf7.out.below (HALB.out _).size (fun k hk e => by omega)); clear hf7 HALL HALB))
      obtain ⟨db, hdb⟩ : ∃ db, db = w6.heap.size := ⟨_, rfl⟩
      rw [← hdb] at HC7 ⊢
      have HB7 := Lib.hid (HB6.out.trans (HB67.out.mono HB6.out.size))
      have HR7 : Hid (w7.heap[R]? = some (.cells z8A 40 (0, 0))) := (HB7.out.block R hRw).trans HZ0.out
      have HC8 : Hid (∀ j, j < 8 → w7.cell? ⟨db, 0 + j, none⟩ = some (vOf (D.take 8) j)) := fun j hj => by
        rw [cell_of_block HC7.out, Nat.zero_add]
        have hd := HDL.out
        simp only [rowArr, List.getElem?_toArray, List.getElem?_map, List.getElem?_range (show j < 32 by omega), Option.map_some, vOf, List.getD_eq_getElem?_getD, List.getElem?_take, if_pos hj]
      have V3 : Hid (rowArr 8 (vOf (D.take 8)) = A3) := by show _ = _; rw [HA3.out, HNN.out]
      have HA3s : Hid (A3.size = 8) := by show _ = _; rw [← V3.out, rowArr_size]
      have HA31 : Hid (A3.all (·.oneCell') = true) := by show _ = _; rw [← V3.out]; exact oneCell_v _ 8
      have HBW0 : Hid (Below w.heap.size w w7) := HB0.out.trans (HB7.out.mono HB0.out.size)
      have hAA := arrayAt8 db
      clear hdb HB67 HB6 HB3
      go_wp2_with (first
        | (refine wpList_load_v (by rfl) 40 _ rfl db 0 8 _ A3 V3.out rfl _ HC8.out Tryz.underlying40 rfl (by kernel_rfl) ?_)
        | (refine wpList_store_arr rfl 40 _ _ rfl R A3 rfl rfl 40 _ HR7.out (by rw [HA3s.out]; kernel_rfl) (by rw [HA3s.out]; rfl) HA31.out ?_; intro w9 HC9 hf9; have HB9 : Hid (Below w.heap.size w w9) := HBW0.out.trans (hf9.out.below HBW0.out.size (fun k hk e => by omega)); clear hf9))
      exact bodyPost_ret (v := .agg A3) (results_cell_row rfl _ _ R 40 A3 (0, 0) _ rfl HC9.out Tryz.underlying40 rfl (by rw [HA3s.out]; kernel_rfl)) rfl ⟨rfl, HB9.out⟩
end Go.Proofs.YtcopjbapglndgaaGreatDoor
end

section
namespace Go.Proofs.YtcopjbapglndgaaGreatDoor
open Go.ChangeShapes Go.WideShapes Go.ChangeAt Go.RowKit Go.Joins
set_option linter.unusedVariables false

def wrN (F : List Pw) : List Nat := (F.map fun f => pkBytes f.p).flatten
theorem wrN_next {F : List Pw} {k : Nat} (h : k < F.length) : wrN (F.take (k + 1)) = wrN (F.take k) ++ pkBytes F[k].p := by
  unfold wrN
  rw [List.take_succ_eq_append_getElem h, List.map_append, List.flatten_append]
  simp
theorem wrN_le : ∀ {F : List Pw}, (∀ f ∈ F, (pkBytes f.p).length ≤ 10000) → (wrN F).length ≤ 10000 * F.length
  | [], _ => by simp [wrN]
  | f :: F, h => by
    have h1 := wrN_le (F := F) fun x hx => h x (by simp [hx])
    have h2 := h f (by simp)
    unfold wrN at h1 ⊢
    simp only [List.map_cons, List.flatten_cons, List.length_append, List.length_cons]
    omega

set_option maxRecDepth 1000000 in
set_option maxHeartbeats 8000000 in
theorem written_any (a : Option Addr) (cap : Nat) (F : List Pw) (w : World) (hs : PkSl w a cap F) (hok : ∀ f ∈ F, pkOk f.p ∧ tellQ f.p ≤ 15000 ∧ (pkBytes f.p).length ≤ 10000) (hn : F.length ≤ 90) (ht : Tabs w) :
    Calls Tryz.prog 29 #[.slice a F.length cap] w fun e w' => ∃ v, e = .returned v ∧ Acc w w' v (wrN F) := by
  have HS := Lib.hid hs
  have HOK := Lib.hid hok
  have HT := Lib.hid ht
  have hlm := hs.lt
  have HN := Lib.hid hn
  have HA0 : Hid (Acc w w (.slice none 0 0) (wrN (F.take 0))) := Acc.nil (Below.refl _ _)
  clear hs hok ht
  go_enter Tryz.func29, Tryz.ntmps29
  go_wp2_with fail
  go_loopw [3, 10] (fun t i wr => ∃ k : Nat, k ≤ F.length ∧ i = .int .i64 k ∧ Hid (Acc w wr t (wrN (F.take k)))) (fun _ i _ => F.length - (intOf i).toNat)
  case atStart => exact ⟨0, by omega, rfl, HA0⟩
  case round =>
    obtain ⟨k, hk, rfl, HA⟩ := hrel
    clear HA0
    by_cases hlt : k < F.length
    · have hPk := HS.out.below HA.out.below
      obtain ⟨pb, off, rfl, hbl, hx⟩ := pks_one hPk hlt
      have hpk := hPk.pks _ (List.getElem_mem hlt)
      have hok := HOK.out _ (List.getElem_mem hlt)
      have hn1 := wrN_next hlt
      have hle : (wrN (F.take k)).length ≤ 10000 * (F.take k).length := wrN_le fun f hf => (HOK.out f (List.mem_of_mem_take hf)).2.2
      rw [List.length_take] at hle
      obtain ⟨f, hf⟩ : ∃ f, f = F[k] := ⟨_, rfl⟩
      rw [← hf] at hx hpk hok hn1
      obtain ⟨W, hW⟩ : ∃ W, W = wrN (F.take k) := ⟨_, rfl⟩
      rw [← hW] at hn1 hle HA
      have HN1 := Lib.hid hn1
      have HXC := Lib.hid hx
      have HPK := Lib.hid hpk
      have HOKF := Lib.hid hok
      have HLE : Hid (W.length ≤ 900000) := by show _ ≤ _; have := HN.out; omega
      obtain ⟨AQ, hAQ⟩ : ∃ AQ, AQ = rowArr 51 (pwV f) := ⟨_, rfl⟩
      have VA : Hid (rowArr 51 (pwV f) = AQ) := hAQ.symm
      have HAS : Hid (AQ.size = 51) := by show _ = _; rw [hAQ, rowArr_size]
      have HA1 : Hid (AQ.all (·.oneCell') = true) := by show _ = _; rw [hAQ]; exact oneCell_pk _ _ _ _ _
      have HALL : Hid (∀ c : Array Value, (wr.alloc (.cells c 75)).heap[wr.heap.size]? = some (.cells c 75 (0, 0))) := fun c => heap_alloc_last wr _
      have HALB : Hid (∀ c : Array Value, Below wr.heap.size wr (wr.alloc (.cells c 75))) := fun c => (Below.refl _ _).alloc (Nat.le_refl _) _
      have HTr := Lib.hid (HT.out.below HA.out.below)
      clear hx hpk hok hf hAQ hn1 hPk hle hW
      go_upto_region 5 with (first
        | (refine wpList_load_v (by rfl) 75 _ rfl pb (off + k * 51) 51 _ AQ VA.out rfl _ HXC.out Tryz.underlying75 rfl (by kernel_rfl) ?_)
        | (refine wpList_store_arr rfl 75 _ _ rfl wr.heap.size AQ rfl rfl 75 _ (HALL.out _) (by rw [HAS.out]; kernel_rfl) (by rw [HAS.out]; rfl) HA1.out ?_; intro w7 HC7 hf7; have HB67 : Hid (Below wr.heap.size wr w7) := (HALB.out _).trans (hf7.out.below (HALB.out _).size (fun k hk e => by omega)); clear hf7 HALL HALB))
      have HA7 := Lib.hid (HA.out.later HB67.out)
      have hen := encode_any f.p f.sa f.sc f.da f.dc w7 (HPK.out.below HB67.out) HOKF.out.2.1 (HTr.out.below HB67.out)
      rw [show rowArr 51 (pkV f.p f.sa f.sc f.da f.dc) = AQ from VA.out] at hen
      have HEN := Lib.hid hen
      obtain ⟨g, hgg⟩ : ∃ g, g = wr.heap.size := ⟨_, rfl⟩
      rw [← hgg] at HC7
      rw [← hgg]
      clear hgg HB67 HA HXC HPK hen HTr
      go_upto_region 6 with (first
        | (refine wpList_load_row rfl 75 _ rfl g rfl 75 AQ (0, 0) _ HC7.out Tryz.underlying75 rfl (by rw [HAS.out]; kernel_rfl) ?_)
        | (go_at_call 52; (with_reducible refine HEN.out.mono ?_); rintro e w8 ⟨hb8, h8, _⟩; obtain ⟨p8, q8, rfl, hs8⟩ := h8 HOKF.out.1; have HB8 := Lib.hid hb8; have HS8 := Lib.hid hs8; clear hb8 h8 hs8))
      have HA8 := Lib.hid (HA7.out.later HB8.out)
      have HLB := Lib.hid HOKF.out.2.2
      obtain ⟨Y, hY⟩ : ∃ Y, Y = pkBytes f.p := ⟨_, rfl⟩
      rw [← hY] at HS8 HN1 HLB
      rw [← hY]
      obtain ⟨ly, hly⟩ : ∃ ly, ly = Y.length := ⟨_, rfl⟩
      rw [← hly]
      have HLY := Lib.hid hly
      clear HEN HC7 HA7 HB8 hY hly HOKF HAS HA1 VA
      go_wp2_with (refine wpList_addB _ rfl _ _ rfl _ W rfl HA8.out.own p8 q8 ly Y rfl HLY.out.symm HS8.out (by have h1 := HLE.out; have h2 := HLB.out; omega) ?_; intro v9 w9 o9 g9 e9; have HA9 := Lib.hid (HA8.out.add o9.out g9.out e9.out); clear o9 g9 e9 HA8)
      rw [← HN1.out] at HA9
      go_roundw
      case rel => exact ⟨k + 1, by omega, by go_num, HA9⟩
      case measure => simp [intOf]; omega
    · obtain rfl : k = F.length := by omega
      rw [List.take_length] at HA
      go_wp2_with fail
      go_ret
      exact ⟨_, rfl, HA.out⟩
end Go.Proofs.YtcopjbapglndgaaGreatDoor
end

section
namespace Go.Proofs.YtcopjbapglndgaaGreatDoor
open Go.Shelf Go.Proofs
def lay_splitB_ren : Go.Shelf.Ren := ⟨fun | 146 => 82 | 221 => 101 | 268 => 111 | 138 => 112 | 143 => 113 | 195 => 120 | 197 => 121 | 218 => 122 | 219 => 123 | 260 => 127 | 217 => 128 | 225 => 129 | 224 => 130 | 267 => 131 | 266 => 134 | 314 => 135 | n => n, fun | 9 => 9 | 31 => 137 | 3 => 3 | 4 => 4 | 0 => 0 | 105 => 168 | 21 => 21 | 5 => 5 | 46 => 105 | 119 => 174 | 139 => 177 | 138 => 176 | 146 => 178 | 51 => 44 | n => n, fun | 1 => 3 | 3 => 4 | 4 => 5 | n => n⟩
theorem lay_splitB : Go.Proofs.LaysM.n146 Tryz.prog lay_splitB_ren := {
  mixed := by kernel_rfl
  f138 := Tryz.func112.trans (congrArg some (by kernel_rfl))
  f143 := Tryz.func113.trans (congrArg some (by kernel_rfl))
  f146 := Tryz.func82.trans (congrArg some (by kernel_rfl))
  f195 := Tryz.func120.trans (congrArg some (by kernel_rfl))
  f197 := Tryz.func121.trans (congrArg some (by kernel_rfl))
  f217 := Tryz.func128.trans (congrArg some (by kernel_rfl))
  f218 := Tryz.func122.trans (congrArg some (by kernel_rfl))
  f219 := Tryz.func123.trans (congrArg some (by kernel_rfl))
  f221 := Tryz.func101.trans (congrArg some (by kernel_rfl))
  f224 := Tryz.func130.trans (congrArg some (by kernel_rfl))
  f225 := Tryz.func129.trans (congrArg some (by kernel_rfl))
  f260 := Tryz.func127.trans (congrArg some (by kernel_rfl))
  f266 := Tryz.func134.trans (congrArg some (by kernel_rfl))
  f267 := Tryz.func131.trans (congrArg some (by kernel_rfl))
  f268 := Tryz.func111.trans (congrArg some (by kernel_rfl))
  f314 := Tryz.func135.trans (congrArg some (by kernel_rfl))
  t0 := Tryz.underlying0
  a0 := Tryz.isAgg0
  z0 := Tryz.sizeOf0
  v0 := Tryz.zeroValue0
  t3 := Tryz.underlying3
  a3 := Tryz.isAgg3
  z3 := Tryz.sizeOf3
  v3 := Tryz.zeroValue3
  t4 := Tryz.underlying4
  a4 := Tryz.isAgg4
  z4 := Tryz.sizeOf4
  v4 := Tryz.zeroValue4
  t5 := Tryz.underlying5
  a5 := Tryz.isAgg5
  z5 := Tryz.sizeOf5
  v5 := Tryz.zeroValue5
  t9 := Tryz.underlying9
  a9 := Tryz.isAgg9
  z9 := Tryz.sizeOf9
  v9 := Tryz.zeroValue9
  t21 := Tryz.underlying21
  a21 := Tryz.isAgg21
  z21 := Tryz.sizeOf21
  v21 := Tryz.zeroValue21
  t31 := Tryz.underlying137
  a31 := Tryz.isAgg137
  z31 := Tryz.sizeOf137
  v31 := Tryz.zeroValue137
  t46 := Tryz.underlying105
  a46 := Tryz.isAgg105
  z46 := Tryz.sizeOf105
  v46 := Tryz.zeroValue105
  t51 := Tryz.underlying44
  a51 := Tryz.isAgg44
  z51 := Tryz.sizeOf44
  v51 := Tryz.zeroValue44
  t105 := Tryz.underlying168
  a105 := Tryz.isAgg168
  z105 := Tryz.sizeOf168
  v105 := Tryz.zeroValue168
  t119 := Tryz.underlying174
  a119 := Tryz.isAgg174
  z119 := Tryz.sizeOf174
  t138 := Tryz.underlying176
  a138 := Tryz.isAgg176
  z138 := Tryz.sizeOf176
  v138 := Tryz.zeroValue176
  t139 := Tryz.underlying177
  a139 := Tryz.isAgg177
  z139 := Tryz.sizeOf177
  v139 := Tryz.zeroValue177
  t146 := Tryz.underlying178
  a146 := Tryz.isAgg178
  z146 := Tryz.sizeOf178
  v146 := Tryz.zeroValue178
  g1 := by kernel_rfl
  g3 := by kernel_rfl
  g4 := by kernel_rfl
  i0 := by kernel_rfl
  i3 := by kernel_rfl
  i4 := by kernel_rfl
  i5 := by kernel_rfl
  i9 := by kernel_rfl
  i21 := by kernel_rfl
  i31 := by kernel_rfl
  i46 := by kernel_rfl
  i51 := by kernel_rfl
  i105 := by kernel_rfl
  i138 := by kernel_rfl
  i139 := by kernel_rfl
  i146 := by kernel_rfl
  m1 := by kernel_rfl
  s1_3 := fun w h => Go.Proofs.cell_of_shapedOpen_int (zero := #[.int .i64 0]) (t := 3) h (of_decide_eq_true (by kernel_rfl)) (by kernel_rfl) rfl (by kernel_rfl) (by kernel_rfl) Tryz.underlying3
  m3 := by kernel_rfl
  m4 := by kernel_rfl }
def lay_suffixB_ren : Go.Shelf.Ren := ⟨fun | 100 => 80 | 207 => 100 | n => n, fun | 9 => 9 | 4 => 4 | 3 => 3 | n => n, fun | n => n⟩
theorem lay_suffixB : Go.Proofs.Lays.n100 Tryz.prog lay_suffixB_ren := {
  mixed := by kernel_rfl
  f100 := Tryz.func80.trans (congrArg some (by kernel_rfl))
  f207 := Tryz.func100.trans (congrArg some (by kernel_rfl))
  t3 := Tryz.underlying3
  a3 := Tryz.isAgg3
  z3 := Tryz.sizeOf3
  v3 := Tryz.zeroValue3
  t4 := Tryz.underlying4
  a4 := Tryz.isAgg4
  z4 := Tryz.sizeOf4
  v4 := Tryz.zeroValue4
  t9 := Tryz.underlying9
  a9 := Tryz.isAgg9
  z9 := Tryz.sizeOf9
  v9 := Tryz.zeroValue9 }
end Go.Proofs.YtcopjbapglndgaaGreatDoor
end

section
namespace Go.Proofs.YtcopjbapglndgaaGreatDoor
open Go.ChangeShapes Go.WideShapes Go.ChangeAt Go.RowKit Go.Joins
set_option linter.unusedVariables false

/-- The library's variable that strings.Split reads. -/
structure Mx (w : World) : Prop where
  max : ∃ m, w.cell? ⟨3, 0, none⟩ = some (.int .i64 m)
theorem lt_cell {w : World} {a : Addr} {v : Value} (h : w.cell? a = some v) : a.block < w.heap.size := by
  rcases Nat.lt_or_ge a.block w.heap.size with h1 | h1
  · exact h1
  · simp [World.cell?, Array.getElem?_eq_none h1] at h
theorem Mx.below {w w' : World} (h : Mx w) (hb : Below w.heap.size w w') : Mx w' := by
  obtain ⟨m, hm⟩ := h.max
  exact ⟨m, (hb.cell (lt_cell hm)).trans hm⟩
theorem Mx.of_shape {w : World} (h : w.ShapedOpen Tryz.prog) : Mx w := ⟨lay_splitB.s1_3 w h⟩

set_option maxRecDepth 100000 in
theorem letter_any (c : Nat) (hc : c < 256) (w : World) :
    Calls Tryz.prog 81 #[.int .u8 (c : Int)] w fun e w' => e = .returned (.bool (letB c || decide (c = 47))) ∧ w' = w := by
  obtain ⟨r, hr⟩ : ∃ r, r = (letB c || decide (c = 47)) := ⟨_, rfl⟩
  rw [← hr]
  unfold letB at hr
  have H : c < 45 ∨ c = 45 ∨ c = 46 ∨ c = 47 ∨ (48 ≤ c ∧ c ≤ 57) ∨ (58 ≤ c ∧ c ≤ 94) ∨ c = 95 ∨ c = 96 ∨ (97 ≤ c ∧ c ≤ 122) ∨ 123 ≤ c := by omega
  rcases H with h | h | h | h | h | h | h | h | h | h
  all_goals
    have HR : Hid (r = decide ((97 ≤ c ∧ c ≤ 122) ∨ (48 ≤ c ∧ c ≤ 57) ∨ (45 ≤ c ∧ c ≤ 47) ∨ c = 95)) := by
      show _ = _
      rw [hr]
      simp only [← Bool.decide_and, ← Bool.decide_or]
      rw [decide_eq_decide]
      omega
    clear hr
    go_enter Tryz.func81, Tryz.ntmps81
    go_wp2_with fail
    go_ret
    refine ⟨ret_bool ?_, rfl⟩
    first | exact HR.out.symm | (rw [HR.out]; first | (symm; exact decide_eq_true (by omega)) | (symm; exact decide_eq_false (by omega)) | (rw [Bool.eq_iff_iff]; simp; omega))
end Go.Proofs.YtcopjbapglndgaaGreatDoor
end

section
namespace Go.Proofs.YtcopjbapglndgaaGreatDoor
open Go.ChangeShapes Go.WideShapes Go.ChangeAt Go.RowKit Go.Joins
set_option linter.unusedVariables false

theorem str_index (s : ByteArray) (k : Nat) (hk : k < s.size) : ∃ c : Nat, c < 256 ∧ (∀ W, (Instr.index 9 (.string s) (.int .i64 (k : Int))).run Tryz.prog W = .ok (.int .u8 (c : Int)) W) ∧ ∃ x : UInt8, x.toNat = c ∧ s.data.toList[k]? = some x := by
  have hl : s.data.toList.length = s.size := Array.length_toList
  refine ⟨(s[k]'hk).toNat, UInt8.toNat_lt _, fun W => ?_, s[k]'hk, rfl, ?_⟩
  · rw [run_index_string (h := Tryz.underlying9), dif_pos ⟨by omega, by omega⟩]
    simp
  · rw [List.getElem?_eq_getElem (by omega)]
    rfl
theorem str_some {s : ByteArray} (h : ¬ s.size = 0) : s.toList.isEmpty = false := by
  rw [ByteArray.toList_eq]
  cases hl : s.data.toList with
  | nil => exact absurd (show s.data.size = 0 by rw [← Array.length_toList, hl]; rfl) h
  | cons _ _ => rfl
/-- strings.Split at a stroke: a new row of the parts. -/
theorem split_any (s : ByteArray) (hs : s.size < 4294967281) (w : World) (hm : Mx w) :
    Calls Tryz.prog 82 #[.string s, .string ⟨#[47]⟩] w fun e w' => ∃ B, e = .returned (.slice (some ⟨B, 0, none⟩) (partsN s.data.toList).length (partsN s.data.toList).length) ∧
      (∀ k, k < (partsN s.data.toList).length → ∃ p : ByteArray, w'.cell? ⟨B, k, none⟩ = some (.string p) ∧ (partsN s.data.toList)[k]? = some p.data.toList) ∧ Below w.heap.size w w' := by
  obtain ⟨m, hm⟩ := hm.max
  refine (Any.strings_Split { lay_splitB with } lay_splitB.i9 s ⟨#[47]⟩ m w hs hm (by decide)).mono ?_
  rintro e w' ⟨rfl, rfl⟩
  rw [count_parts]
  refine ⟨w.heap.size, rfl, fun k hk => ?_, (Below.refl _ _).alloc (Nat.le_refl _) _⟩
  rw [← split_parts] at hk ⊢
  rw [List.length_map] at hk
  refine ⟨(Lib.splitB ⟨#[47]⟩ 0 (Lib.countB s ⟨#[47]⟩) s)[k], ?_, ?_⟩
  · rw [World.cell?_alloc_new]
    simp [hk]
  · rw [List.getElem?_map, List.getElem?_eq_getElem hk]; rfl
set_option maxRecDepth 100000 in
set_option maxHeartbeats 4000000 in
theorem name_any (s : ByteArray) (hs : s.size ≤ 9223372036854775807) (w : World) (hm : Mx w) :
    Calls Tryz.prog 64 #[.string s] w fun e w' => e = .returned (.bool (nameB s.data.toList)) ∧ Below w.heap.size w w' := by
  have hl : s.data.toList.length = s.size := Array.length_toList
  obtain ⟨l, hL⟩ : ∃ l, l = s.data.toList := ⟨_, rfl⟩
  obtain ⟨r, hr⟩ : ∃ r, r = nameB l := ⟨_, rfl⟩
  rw [← hL] at hl
  rw [← hL, ← hr]
  have HB0 : Hid (Below w.heap.size w w) := Below.refl _ _
  have HM := Lib.hid hm
  clear hm
  by_cases h0 : s.size = 0
  · have hR : Hid (r = false) := by
      show _ = _
      obtain rfl : l = [] := List.length_eq_zero_iff.1 (by omega)
      rw [hr, nameB_nil]
    clear hr
    have e0 : s = ByteArray.empty := by
      apply ByteArray.ext
      apply Array.ext'
      rw [← hL]
      simpa using List.length_eq_zero_iff.1 (by omega : l.length = 0)
    subst e0
    go_enter Tryz.func64, Tryz.ntmps64
    go_wp2_with fail
    go_ret
    exact ⟨ret_bool hR.out.symm, HB0.out⟩
  have ne : s.toList.isEmpty = false := str_some h0
  have ne2 : ¬ s.toList = [] := by intro e; rw [e] at ne; cases ne
  by_cases h1 : 40 < s.size
  · have hR : Hid (r = false) := by
      show _ = _
      rw [hr]
      cases e : nameB l
      · rfl
      · have := ((nameB_iff l).1 e).1; omega
    clear hr
    have d1 : decide ((40 : Int) < (s.size : Int)) = true := decide_eq_true (by omega)
    go_enter Tryz.func64, Tryz.ntmps64
    go_wp2_with fail
    go_ret
    exact ⟨ret_bool hR.out.symm, HB0.out⟩
  have d1 : decide ((40 : Int) < (s.size : Int)) = false := decide_eq_false (by omega)
  have HS : Hid (∀ w, Calls Tryz.prog 80 #[.string s, .string ⟨#[46, 103, 121, 115]⟩] w fun e w' => e = .returned (.bool (Lib.hasSuffix l [46, 103, 121, 115])) ∧ w' = w) := fun w => by
    rw [hL]
    exact Any.strings_HasSuffix lay_suffixB s ⟨#[46, 103, 121, 115]⟩ w hs
  have HI : Hid (r = true ↔ l.length ≤ 40 ∧ Lib.hasSuffix l [46, 103, 121, 115] = false ∧ (∀ c ∈ l, letB c.toNat = true ∨ c.toNat = 47) ∧ (∀ p ∈ partsN l, partB p = true) ∧ (partsN l).head? ≠ some [111, 108, 100] ∧ (partsN l).head? ≠ some [116, 109, 112]) := by
    show _ ↔ _
    rw [hr]; exact nameB_iff l
  obtain ⟨q, hq⟩ : ∃ q, q = Lib.hasSuffix l [46, 103, 121, 115] := ⟨_, rfl⟩
  rw [← hq] at HS HI
  clear hq hr
  cases q
  · go_enter Tryz.func64, Tryz.ntmps64
    go_upto_region 3 with (go_at_call 80; refine (HS.out _).mono ?_; rintro e w' ⟨rfl, hw⟩; obtain rfl := hw.symm)
    clear HS
    have hz : s.size ≤ 40 := by omega
    have HL : Hid (∀ k, k < s.size → ∃ c : Nat, c < 256 ∧ (∀ W, (Instr.index 9 (.string s) (.int .i64 (k : Int))).run Tryz.prog W = .ok (.int .u8 (c : Int)) W) ∧ ∃ x : UInt8, x.toNat = c ∧ l[k]? = some x) := by
      show ∀ _, _
      rw [hL]; exact str_index s
    have HP : Hid (l.length = s.size ∧ l = s.data.toList) := ⟨hl, hL⟩
    clear hl hL h1 hs
    have HK0 : Hid (∀ c ∈ l.take 0, letB c.toNat = true ∨ c.toNat = 47) := fun c h => by simp at h
    go_wp2_with fail
    go_loopw [20] (fun i wr => ∃ k : Nat, k ≤ s.size ∧ i = .int .i64 k ∧ Hid (∀ c ∈ l.take k, letB c.toNat = true ∨ c.toNat = 47) ∧ Hid (Below w.heap.size w wr)) (fun i _ => s.size - (intOf i).toNat)
    case atStart => exact ⟨0, by omega, rfl, HK0, HB0⟩
    case round =>
      obtain ⟨k, hk, rfl, HK, HB⟩ := hrel
      clear HB0 HK0
      by_cases hlt : k < s.size
      · obtain ⟨c, hc, hix, x, hx, hxk⟩ := HL.out k hlt
        have hA := letter_any c hc
        have HN : Hid ((letB c || decide (c = 47)) = true → ∀ c ∈ l.take (k + 1), letB c.toNat = true ∨ c.toNat = 47) := fun h c hc => by
          obtain ⟨hkl, e⟩ := List.getElem?_eq_some_iff.1 hxk
          rw [List.take_succ_eq_append_getElem hkl] at hc
          rcases List.mem_append.1 hc with hc | hc
          · exact HK.out c hc
          · obtain rfl : c = x := by rw [← e]; simpa using hc
            rw [hx]
            simpa using h
        have HF : Hid ((letB c || decide (c = 47)) = false → r = false) := fun h => by
          cases e : r
          · rfl
          · have := (HI.out.1 e).2.2.1 x (List.mem_of_getElem? hxk)
            rw [hx] at this
            simp at h
            rcases this with h1 | h1
            · rw [h1] at h; cases h.1
            · exact absurd h1 h.2
        have HA := Lib.hid hA
        clear hA hxk hx HK
        obtain ⟨q, hq⟩ : ∃ q, q = (letB c || decide (c = 47)) := ⟨_, rfl⟩
        rw [← hq] at HA HN HF
        clear hq
        cases q
        · have HF2 := Lib.hid (HF.out rfl)
          go_wp2_with (go_at_call 81; refine (HA.out _).mono ?_; rintro e w' ⟨rfl, hw⟩; obtain rfl := hw.symm)
          go_ret
          exact ⟨ret_bool HF2.out.symm, HB.out⟩
        · have HN2 := Lib.hid (HN.out rfl)
          go_wp2_with (go_at_call 81; refine (HA.out _).mono ?_; rintro e w' ⟨rfl, hw⟩; obtain rfl := hw.symm)
          go_roundw
          case rel => exact ⟨k + 1, by omega, by go_num, HN2, HB⟩
          case measure => simp [intOf]; omega
      · obtain rfl : k = s.size := by omega
        have HG : Hid (∀ c ∈ l, letB c.toNat = true ∨ c.toNat = 47) := fun c hc => HK.out c (by rw [List.take_of_length_le (by rw [HP.out.1]; exact Nat.le_refl _)]; exact hc)
        clear HK HL
        have HSp : Hid (∀ w, Mx w → Calls Tryz.prog 82 #[.string s, .string ⟨#[47]⟩] w fun e w' => ∃ B, e = .returned (.slice (some ⟨B, 0, none⟩) (partsN l).length (partsN l).length) ∧
            (∀ k, k < (partsN l).length → ∃ p : ByteArray, w'.cell? ⟨B, k, none⟩ = some (.string p) ∧ (partsN l)[k]? = some p.data.toList) ∧ Below w.heap.size w w') := by
          show ∀ _, _
          rw [HP.out.2]
          exact fun w hm => split_any s (by omega) w hm
        have HM1 := Lib.hid (HM.out.below HB.out)
        obtain ⟨P, hPe⟩ : ∃ P, P = partsN l := ⟨_, rfl⟩
        have hP0 : P ≠ [] := by rw [hPe]; exact partsN_ne l
        have hPl : P.length ≤ 41 := by rw [hPe]; have := partsN_len l; have := HP.out.1; omega
        rw [← hPe] at HSp HI
        clear hPe HM
        obtain ⟨n, hn⟩ : ∃ n, n = P.length := ⟨_, rfl⟩
        rw [← hn] at HSp
        have hn0 : 0 < n := by rw [hn]; exact List.length_pos_iff.2 hP0
        have hn41 : n ≤ 41 := by omega
        have HnP := Lib.hid hn
        clear hlt hk hn hPl
        go_upto_region 10 with (go_at_call 82; refine (HSp.out _ HM1.out).mono ?_; rintro e w1 ⟨B, rfl, hcell, hb1⟩)
        have HC0 : Hid (∀ k, k < n → ∃ p : ByteArray, w1.cell? ⟨B, k, none⟩ = some (.string p) ∧ P[k]? = some p.data.toList) := hcell
        have HB1 : Hid (Below w.heap.size w w1) := HB.out.trans (hb1.mono HB.out.size)
        have HQ0 : Hid (∀ p ∈ P.take 0, partB p = true) := fun p h => by simp at h
        clear hcell hb1 HB HM1 HSp
        go_wp2_with fail
        go_loopw [33] (fun i wr => ∃ k : Nat, k ≤ n ∧ i = .int .i64 k ∧ Hid (∀ k, k < n → ∃ p : ByteArray, wr.cell? ⟨B, k, none⟩ = some (.string p) ∧ P[k]? = some p.data.toList) ∧ Hid (∀ p ∈ P.take k, partB p = true) ∧ Hid (Below w.heap.size w wr)) (fun i _ => n - (intOf i).toNat)
        case atStart => exact ⟨0, by omega, rfl, HC0, HQ0, HB1⟩
        case round =>
          obtain ⟨k, hk, rfl, HC, HQ, HB⟩ := hrel
          clear HC0 HQ0 HB1
          by_cases hlt : k < n
          · obtain ⟨p, hc, hpk⟩ := HC.out k hlt
            have hpl : p.toList = p.data.toList := ByteArray.toList_eq p
            obtain ⟨y, hy⟩ : ∃ y, y = p.toList := ⟨_, rfl⟩
            have HF : Hid (partB y = false → r = false) := fun h => by
              cases e : r
              · rfl
              · have := (HI.out.1 e).2.2.2.1 p.data.toList (List.mem_of_getElem? hpk)
                rw [← hpl, ← hy, h] at this
                cases this
            have HN : Hid (partB y = true → ∀ p ∈ P.take (k + 1), partB p = true) := fun h q hq => by
              obtain ⟨hkl, e⟩ := List.getElem?_eq_some_iff.1 hpk
              rw [List.take_succ_eq_append_getElem hkl] at hq
              rcases List.mem_append.1 hq with hq | hq
              · exact HQ.out q hq
              · obtain rfl : q = y := by rw [hy, hpl, ← e]; simpa using hq
                exact h
            have HY := Lib.hid hy
            clear hpk hpl hy HQ
            by_cases c1 : y = []
            · have HF2 := Lib.hid (HF.out (by rw [c1]; rfl))
              clear HF HN
              have d1 : p.toList.isEmpty = true := by rw [← HY.out, c1]; rfl
              have d2 : p.toList = [] := by rw [← HY.out, c1]
              clear c1 HY
              go_wp2_with fail
              go_ret
              exact ⟨ret_bool HF2.out.symm, HB.out⟩
            have n1 : p.toList.isEmpty = false := by rw [← HY.out]; cases y with | nil => exact absurd rfl c1 | cons _ _ => rfl
            have n2 : ¬ p.toList = [] := by rw [← HY.out]; exact c1
            by_cases c2 : y = [46]
            · have HF2 := Lib.hid (HF.out (by rw [c2]; rfl))
              clear HF HN
              have d1 : (p.toList == [46]) = true := by rw [← HY.out, c2]; rfl
              have d2 : p.toList = [46] := by rw [← HY.out, c2]
              clear c2 c1 HY
              go_wp2_with fail
              go_ret
              exact ⟨ret_bool HF2.out.symm, HB.out⟩
            have n3 : (p.toList == [46]) = false := by rw [← HY.out]; simpa using c2
            have n4 : ¬ p.toList = [46] := by rw [← HY.out]; exact c2
            by_cases c3 : y = [46, 46]
            · have HF2 := Lib.hid (HF.out (by rw [c3]; rfl))
              clear HF HN
              have d1 : (p.toList == [46, 46]) = true := by rw [← HY.out, c3]; rfl
              have d2 : p.toList = [46, 46] := by rw [← HY.out, c3]
              clear c3 c2 c1 HY n4 n2
              go_wp2_with fail
              go_ret
              exact ⟨ret_bool HF2.out.symm, HB.out⟩
            have n5 : (p.toList == [46, 46]) = false := by rw [← HY.out]; simpa using c3
            have n6 : ¬ p.toList = [46, 46] := by rw [← HY.out]; exact c3
            have HN2 := Lib.hid (HN.out (by unfold partB; simp [c1, c2, c3]))
            clear HF HN c1 c2 c3 HY
            go_wp2_with fail
            go_roundw
            case rel => exact ⟨k + 1, by omega, by go_num, HC, HN2, HB⟩
            case measure => simp [intOf]; omega
          · obtain rfl : k = n := by omega
            have HR : Hid (P.head? ≠ some [111, 108, 100] → P.head? ≠ some [116, 109, 112] → r = true) := fun h1 h2 => by
              refine HI.out.2 ⟨by have := HP.out.1; omega, trivial, HG.out, fun p hp => HQ.out p ?_, h1, h2⟩
              rw [List.take_of_length_le (by rw [HnP.out]; exact Nat.le_refl _)]; exact hp
            have HR1 : Hid (P.head? = some [111, 108, 100] → r = false) := fun h => by
              cases e : r
              · rfl
              · exact absurd h (HI.out.1 e).2.2.2.2.1
            have HR2 : Hid (P.head? = some [116, 109, 112] → r = false) := fun h => by
              cases e : r
              · rfl
              · exact absurd h (HI.out.1 e).2.2.2.2.2
            obtain ⟨p, hc, hpk⟩ := HC.out 0 hn0
            have hpl : p.toList = p.data.toList := ByteArray.toList_eq p
            have hh : P.head? = some p.toList := by rw [hpl, ← hpk, List.head?_eq_getElem?]
            rw [hh] at HR HR1 HR2
            clear hh hpl hpk HI HG HP HQ HC
            by_cases c1 : p.toList = [111, 108, 100]
            · have HF2 := Lib.hid (HR1.out (by rw [c1]))
              clear HR HR1 HR2
              have d1 : (p.toList == [111, 108, 100]) = true := by rw [c1]; rfl
              go_wp2_with fail
              go_ret
              exact ⟨ret_bool HF2.out.symm, HB.out⟩
            have n1 : (p.toList == [111, 108, 100]) = false := by simpa using c1
            by_cases c2 : p.toList = [116, 109, 112]
            · have HF2 := Lib.hid (HR2.out (by rw [c2]))
              clear HR HR1 HR2
              have d1 : (p.toList == [116, 109, 112]) = true := by rw [c2]; rfl
              go_wp2_with fail
              go_ret
              exact ⟨ret_bool HF2.out.symm, HB.out⟩
            have n2 : (p.toList == [116, 109, 112]) = false := by simpa using c2
            have HF2 := Lib.hid (HR.out (by simpa using c1) (by simpa using c2))
            clear HR HR1 HR2
            go_wp2_with fail
            go_ret
            exact ⟨ret_bool HF2.out.symm, HB.out⟩
  · have hR : Hid (r = false) := by
      show _ = _
      cases e : r
      · rfl
      · have := (HI.out.1 e).2.1; cases this
    clear HI
    go_enter Tryz.func64, Tryz.ntmps64
    go_wp2_with (go_at_call 80; refine (HS.out _).mono ?_; rintro e w' ⟨rfl, rfl⟩)
    go_ret
    exact ⟨ret_bool hR.out.symm, HB0.out⟩
end Go.Proofs.YtcopjbapglndgaaGreatDoor
end
