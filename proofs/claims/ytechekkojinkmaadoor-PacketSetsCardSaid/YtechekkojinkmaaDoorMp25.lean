/-
  A set's directory: each packet of it is right; what all of it tells is short.
  Rows of packets: two built at once; a set's name written into one; slices of what is known of slices, cut.
  Package packet's Directory.
-/
import Derived.Test.YtechekkojinkmaaDoorMp24
import Derived.Laws.CopyRow
section
namespace Go.Proofs.YtechekkojinkmaaDoor
open Go.ChangeShapes Go.WideShapes Go.ChangeAt Go.RowKit Go.Joins
set_option linter.unusedVariables false

theorem name_len {l : List Nat} (h : nameL l = true) : l.length ≤ 40 := by
  have := ((nameB_iff _).1 h).1
  simpa using this
theorem pkIn_main {S : St} (h : i64R S.slice) (h1 : S.files.length ≤ 9223372036854775807) (h2 : S.slices.length ≤ 9223372036854775807) : PkIn (mainP S) := by
  have z := i64R_small 0 (by decide)
  exact ⟨by simp [mainP, z8], fun y hy => by simp [mainP, z8] at hy; omega, i64R_small 1 (by decide), h, by unfold i64R; simp [mainP]; omega, by unfold i64R; simp [mainP]; omega, z, zFil_ok, fun x hx => (by cases hx), by simp [mainP], fun y hy => (by cases hy)⟩
theorem pkIn_file {i : Nat} {f : Fil} (hi : i ≤ 9223372036854775807) (h : FilOk f) : PkIn (fileP i f) := by
  have z := i64R_small 0 (by decide)
  exact ⟨by simp [fileP, z8], fun y hy => by simp [fileP, z8] at hy; omega, i64R_small 2 (by decide), z, z, z, by unfold i64R; simp [fileP]; omega, h, fun x hx => (by cases hx), by simp [fileP], fun y hy => (by cases hy)⟩
theorem pkIn_sums {i : Nat} {l : List Sm} (hi : i ≤ 9223372036854775807) (h : ∀ x ∈ l, SmOk x) : PkIn (sumsP i l) := by
  have z := i64R_small 0 (by decide)
  exact ⟨by simp [sumsP, z8], fun y hy => by simp [sumsP, z8] at hy; omega, i64R_small 3 (by decide), z, z, z, by unfold i64R; simp [sumsP]; omega, zFil_ok, h, by simp [sumsP], fun y hy => (by cases hy)⟩
theorem cost_app (a b : List Pk) : costN (a ++ b) = costN a + costN b := by unfold costN; simp
structure DirIn (S : St) : Prop where
  slice : i64R S.slice
  files : ∀ f ∈ S.files, FilOk f
  slices : ∀ x ∈ S.slices, SmOk x
  s1 : 1 ≤ S.slice
  s2 : S.slice ≤ 256
  m1 : S.slices.length ≤ 64
  f2 : S.files.length ≤ 8
theorem fil_getD {S : St} (h : DirIn S) {k : Nat} (hk : k < S.files.length) : FilOk (S.files.getD k zFil) := by
  have : S.files.getD k zFil = S.files[k] := by simp [List.getD, hk]
  rw [this]; exact h.files _ (List.getElem_mem hk)
theorem part_len {S : St} {k n : Nat} (h : FileOk S n k) : (partS S k).length = cntN (S.files.getD k zFil).size S.slice := by
  unfold partS
  rw [List.length_take, List.length_drop, h.first]
  have := h.room
  simp only [Int.toNat_natCast]
  omega
theorem part_mem {S : St} {k : Nat} : ∀ x ∈ partS S k, x ∈ S.slices := fun x hx => List.mem_of_mem_drop (List.mem_of_mem_take hx)
theorem partS_get {S : St} {k n : Nat} (h : FileOk S n k) {i : Nat} (hi : i < (partS S k).length) : (partS S k)[i] = S.slices.getD (n + i) zSm := by
  have h1 := part_len h
  have h2 := h.room
  have e : (S.files.getD k zFil).first.toNat = n := by rw [h.first]; simp
  have hlt : n + i < S.slices.length := by omega
  have h3 : (partS S k)[i]? = some (S.slices[n + i]) := by
    unfold partS
    rw [List.getElem?_take_of_lt (by omega), List.getElem?_drop, e, List.getElem?_eq_getElem hlt]
  have h4 : (partS S k)[i] = S.slices[n + i] := by
    rw [List.getElem?_eq_getElem hi] at h3
    exact Option.some.inj h3
  rw [h4]
  simp [List.getD, hlt]
theorem size_lt {S : St} (hd : DirIn S) {k n : Nat} (h : FileOk S n k) : (S.files.getD k zFil).size < 4294967296 := by
  obtain ⟨z, hz⟩ : ∃ z, z = (S.files.getD k zFil).size := ⟨_, rfl⟩
  have h0 := h.size
  have hr := h.room
  have hm := hd.m1
  rw [← hz] at h0 hr ⊢
  by_cases hc : 0 < cntN z S.slice
  · obtain ⟨_, b⟩ := cnt_bounds h0 hd.s1 hd.s2 hc
    have a1 : ((cntN z S.slice : Nat) : Int) * S.slice ≤ 64 * S.slice := Int.mul_le_mul_of_nonneg_right (by omega) (by have := hd.s1; omega)
    have := hd.s2
    omega
  · by_cases hz1 : z < 1
    · omega
    · have := cnt_up (n := z) (s := S.slice) (by omega) hd.s1 hd.s2
      have : 0 ≤ (z - 1) / S.slice := Int.ediv_nonneg (by omega) (by have := hd.s1; omega)
      omega
theorem want_pos {z s : Int} (h0 : 0 ≤ z) (h1 : 1 ≤ s) (h2 : s ≤ 256) {k : Nat} (hk : k < cntN z s) : 0 ≤ wantI s z k ∧ wantI s z k < 65536 := by
  obtain ⟨b1, b2⟩ := cnt_bounds h0 h1 h2 (by omega)
  have e : (k : Int) * s ≤ ((cntN z s : Nat) - 1 : Int) * s := Int.mul_le_mul_of_nonneg_right (by omega) (by omega)
  unfold wantI
  omega
theorem ok_file {S : St} (hd : DirIn S) {k n : Nat} (hk : k < S.files.length) (hn : n ≤ 64) (h : FileOk S n k) : pkOk (fileP k (S.files.getD k zFil)) := by
  have hl := name_len h.name
  have := hd.f2
  refine .inr (.inl ⟨rfl, ⟨rfl, rfl, rfl⟩, ⟨by show (0 : Int) ≤ (k : Int); omega, by show (k : Int) < 256; omega⟩, by show (S.files.getD k zFil).name.length < 256; omega, ⟨h.size, size_lt hd h⟩, ⟨?_, ?_⟩, rfl, ⟨rfl, rfl⟩⟩)
  · show 0 ≤ (S.files.getD k zFil).first
    rw [h.first]; omega
  · show (S.files.getD k zFil).first < 65536
    rw [h.first]; omega
theorem ok_sums {S : St} (hd : DirIn S) {k n : Nat} (hk : k < S.files.length) (h : FileOk S n k) : pkOk (sumsP k (partS S k)) := by
  have := hd.f2
  have hl := part_len h
  have hr := h.room
  have hm := hd.m1
  refine .inr (.inr (.inl ⟨rfl, ⟨rfl, rfl, rfl⟩, rfl, ⟨rfl, rfl⟩, ⟨by show (0 : Int) ≤ (k : Int); omega, by show (k : Int) < 256; omega⟩, by show (partS S k).length < 65536; omega, fun x hx => ?_⟩))
  have hx : x ∈ partS S k := hx
  obtain ⟨i, hi, e⟩ := List.getElem_of_mem hx
  rw [partS_get h hi] at e
  rw [← e, h.cut i (by omega)]
  exact want_pos h.size hd.s1 hd.s2 (by omega)
theorem ok_main {S : St} (hd : DirIn S) : pkOk (mainP S) := by
  have h1 := hd.s1; have h2 := hd.s2; have h3 := hd.m1; have h4 := hd.f2
  exact .inl ⟨rfl, ⟨by show 0 ≤ S.slice; omega, by show S.slice < 65536; omega⟩, ⟨by show (0 : Int) ≤ (S.files.length : Int); omega, by show (S.files.length : Int) < 256; omega⟩, ⟨by show (0 : Int) ≤ (S.slices.length : Int); omega, by show (S.slices.length : Int) < 65536; omega⟩, rfl, rfl, rfl, ⟨rfl, rfl⟩⟩
/-- The directory of the first files. -/
theorem dir_ok {S : St} (hd : DirIn S) {k n : Nat} (g : Good S k n) : (∀ p ∈ dirTo S k, PkIn p ∧ pkOk p ∧ p.file.name.length ≤ 40 ∧ p.data = [] ∧ p.set = z8) ∧ costN (dirTo S k) ≤ 100 + 240 * k + 44 * n := by
  have hf2 := hd.f2
  have hm1 := hd.m1
  induction g with
  | zero =>
    refine ⟨fun p hp => ?_, by simp [costN, dirTo, tellQ, mainP, zFil]⟩
    obtain rfl : p = mainP S := by simpa [dirTo] using hp
    exact ⟨pkIn_main hd.slice (by omega) (by omega), ok_main hd, by simp [mainP, zFil], rfl, rfl⟩
  | @next k n g hk ok ih =>
    obtain ⟨i1, i2⟩ := ih
    have hn := g.room
    have hl := name_len ok.name
    have hpl := part_len ok
    have hr := ok.room
    refine ⟨fun p hp => ?_, ?_⟩
    · rw [dirTo] at hp
      rcases List.mem_append.1 hp with hp | hp
      · exact i1 p hp
      · simp only [List.mem_cons, List.mem_nil_iff, or_false] at hp
        rcases hp with rfl | rfl
        · exact ⟨pkIn_file (by omega) (fil_getD hd hk), ok_file hd hk (by omega) ok, hl, rfl, rfl⟩
        · exact ⟨pkIn_sums (by omega) fun x hx => hd.slices x (part_mem x hx), ok_sums hd hk ok, by simp [sumsP, zFil], rfl, rfl⟩
    · rw [dirTo, cost_app]
      have e : costN [fileP k (S.files.getD k zFil), sumsP k (partS S k)] = 200 + (S.files.getD k zFil).name.length + 44 * (partS S k).length := by
        simp [costN, tellQ, fileP, sumsP, zFil]
        omega
      rw [e]
      omega
end Go.Proofs.YtechekkojinkmaaDoor
end

section
namespace Go.Proofs.YtechekkojinkmaaDoor
open Go.ChangeShapes Go.WideShapes Go.ChangeAt Go.RowKit Go.Joins
set_option linter.unusedVariables false

/-- As sms_slice; what is cut of none is none. -/
theorem sms_slice2 {w : World} {a : Option Addr} {cap : Nat} {l : List Sm} (h : Sms w a cap l) (n c : Nat) (hn : n + c ≤ l.length) (hz : a = none → cap = 0) :
    ∃ a2 cap2, (∀ W, (Instr.slice 23 (.slice a l.length cap) (some (.int .i64 (n : Int))) (some (.int .i64 ((n : Int) + (c : Int)))) none).run Tryd.prog W = .ok (.slice a2 c cap2) W) ∧ Sms w a2 cap2 ((l.drop n).take c) ∧
      (a2 = none → cap2 = 0) := by
  obtain ⟨a2, cap2, h1, h2, h3⟩ := sms_slice h n c hn
  refine ⟨a2, cap2, h1, h2, fun e => ?_⟩
  have hc := h.len
  have hm := h.most
  have h4 := h1 w
  rw [run_slice_lh w 23 a l.length cap undSms .i64 .i64 _ _ (by omega) (by omega) (by omega), elemSm, Tryd.sizeOf57] at h4
  simp only [Result.andThen] at h4
  rw [show ((n : Int) + (c : Int)).toNat = n + c by omega, show ((n : Int)).toNat = n by omega] at h4
  unfold sliced at h4
  injection h4 with h5
  injection h5 with e1 e2 e3
  cases a with
  | none => have := hz rfl; omega
  | some p0 =>
    rw [e] at e1
    split at e1 <;> simp at e1
theorem op_two {o : Oper} {a : Act} {w : World} {K : Act → World → Prop} {Q : Exit → Act → World → Prop} (x y : Operand) (ho : o.op = .buildSlice 26 2 #[(0, x), (1, y)]) (A B : Pw) (hx : a.eval x = .agg (rowArr 51 (pwV A))) (hy : a.eval y = .agg (rowArr 51 (pwV B)))
    (h : K (a.put o.dst (.slice (some ⟨w.heap.size, 0, none⟩) 2 2)) (w.alloc (.cells (rowArr 102 fun j => if j < 51 then pwV A j else pwV B (j - 51)) 44))) : o.wp Tryd.prog a w K Q := by
  have hf := builtS_two (pwV A) (pwV B)
  unfold Program.builtSlice at hf
  cases hie : Tryd.prog.info? 44 with
  | none => simp [hie] at hf
  | some ie =>
    simp only [hie] at hf
    cases hz : ie.zero with
    | none => simp [hz] at hf
    | some z =>
      simp only [hz] at hf
      by_cases hc : 2 * ie.size > 2 ^ 24 ∨ 2 * ie.size = 0
      · simp [hc] at hf
      · rw [if_neg hc] at hf
        refine wp_buildSlice 26 44 2 _ ho _ ie z Tryd.underlying26 hie hz (fun h' => hc (Or.inl h')) (fun h' => hc (Or.inr h')) ?_ h
        simp only [List.map_toArray, List.map_cons, List.map_nil, hx, hy]
        exact hf
theorem two_cells {w' : World} {A B : Pw} {g : Nat} (hg : w'.heap[g]? = some (.cells (rowArr 102 fun j => if j < 51 then pwV A j else pwV B (j - 51)) 44 (0, 0))) :
    ∀ i (h : i < [A, B].length) k, k < 51 → w'.cell? ⟨g, 0 + i * 51 + k, none⟩ = some (pwV [A, B][i] k) := fun i hi k hk => by
  rw [cell_of_block hg]
  simp only [List.length_cons, List.length_nil] at hi
  have h2 : i = 0 ∨ i = 1 := by omega
  have e : 0 + i * 51 + k < 102 := by omega
  simp only [rowArr, List.getElem?_toArray, List.getElem?_map, List.getElem?_range e, Option.map_some]
  rcases h2 with rfl | rfl
  · rw [if_pos (by omega), show 0 + 0 * 51 + k = k by omega]; rfl
  · rw [if_neg (by omega), show 0 + 1 * 51 + k - 51 = k by omega]; rfl
theorem PSt.base {w0 w1 wr : World} {v : Value} {F : List Pw} (h : PSt w1 wr v F) (hb : Below w0.heap.size w0 w1) : PSt w0 wr v F := by
  refine ⟨⟨h.own.1, ?_⟩, hb.trans (h.below.mono hb.size), h.pks⟩
  rcases h.own.2 with e | ⟨g, cap, cur, e, hB, r⟩
  · exact .inl e
  · exact .inr ⟨g, cap, cur, e, Nat.le_trans hb.size hB, r⟩

/-! A set's name, written into one packet of a row. -/

def withSet (n : List Nat) (p : Pk) : Pk := { p with set := n }
def withW (n : List Nat) (f : Pw) : Pw := { f with p := withSet n f.p }
theorem withW_v (n : List Nat) (f : Pw) (j : Nat) : pwV (withW n f) j = if j < 8 then vOf n j else pwV f j := by
  unfold pwV pkV withW withSet
  split
  · rfl
  · rfl
theorem withW_in {n : List Nat} {p : Pk} (h : PkIn p) (h8 : n.length = 8) (hb : IsByte n) : PkIn (withSet n p) := ⟨h8, hb, h.kind, h.slice, h.files, h.slices, h.index, h.file, h.sums, h.id, h.data⟩
def upTo (n : List Nat) (F : List Pw) (k : Nat) : List Pw := (F.take k).map (withW n) ++ F.drop k
theorem upTo_len (n : List Nat) (F : List Pw) (k : Nat) : (upTo n F k).length = F.length := by simp [upTo]; omega
theorem upTo_at {n : List Nat} {F : List Pw} {k : Nat} (h : k < F.length) : (upTo n F k)[k]? = some F[k] := by
  unfold upTo
  rw [List.getElem?_append_right (by simp; omega), List.getElem?_drop]
  have e : k + (k - (List.map (withW n) (F.take k)).length) = k := by simp; omega
  rw [e, List.getElem?_eq_getElem h]
theorem upTo_next {n : List Nat} {F : List Pw} {k : Nat} (h : k < F.length) : (upTo n F k).set k (withW n F[k]) = upTo n F (k + 1) := by
  have e1 : (List.map (withW n) (F.take k)).length = k := by simp; omega
  unfold upTo
  rw [List.set_append_right _ _ (by omega), e1, Nat.sub_self, List.drop_eq_getElem_cons h, List.set_cons_zero, List.take_succ_eq_append_getElem h, List.map_append]
  simp
theorem upTo_all (n : List Nat) (F : List Pw) : (upTo n F F.length).map (·.p) = (F.map (·.p)).map (withSet n) := by
  simp [upTo, withW]
theorem PSt.mark {w0 wr : World} {v : Value} {F : List Pw} (h : PSt w0 wr v F) {i : Nat} {x : Pw} (hx : F[i]? = some x) (nm : List Nat) (h8 : nm.length = 8) (hb : IsByte nm) :
    ∃ g c cur, v = .slice (some ⟨g, 0, none⟩) F.length c ∧ wr.heap[g]? = some (.cells cur 44 (0, 0)) ∧ i * 51 + 8 ≤ cur.size ∧
      ∀ w', w'.heap[g]? = some (.cells (cur.toList.take (i * 51) ++ (rowArr 8 (vOf nm)).toList ++ cur.toList.drop (i * 51 + 8)).toArray 44 (0, 0)) → Fr (fun k => k = g) wr w' → PSt w0 w' v (F.set i (withW nm x)) := by
  obtain ⟨hi, hxe⟩ := List.getElem?_eq_some_iff.1 hx
  rcases h.own.2 with ⟨h1, h2⟩ | ⟨g, cap, cur, e, hB, hh, hle, hmx, hsz, htk⟩
  · omega
  have hroom : i * 51 + 51 ≤ cur.size := by omega
  refine ⟨g, cap, cur, e, hh, by omega, fun w' hg hf => ⟨⟨?_, .inr ⟨g, cap, _, by rw [e, List.length_set], hB, hg, by rw [List.length_set]; exact hle, hmx, ?_, ?_⟩⟩, ?_, fun y hy => ?_⟩⟩
  · rw [encP_len]
  · simp [rowArr]; omega
  · rw [List.length_set]
    apply List.ext_getElem?
    intro j
    by_cases hj : j < F.length * 51
    · rw [List.getElem?_take_of_lt hj]
      have hi2 : j / 51 < F.length := by omega
      have hk2 : j % 51 < 51 := Nat.mod_lt _ (by omega)
      have ej : j / 51 * 51 + j % 51 = j := by omega
      have hcur : cur.toList[j]? = some (pwV F[j / 51] (j % 51)) := by
        have h3 := encP_get hi2 hk2
        rw [ej, ← htk, List.getElem?_take_of_lt hj] at h3
        exact h3
      have hR : (encP (F.set i (withW nm x)))[j]? = some (pwV ((F.set i (withW nm x))[j / 51]'(by rw [List.length_set]; exact hi2)) (j % 51)) := by
        have h3 := encP_get (l := F.set i (withW nm x)) (i := j / 51) (by rw [List.length_set]; exact hi2) hk2
        rw [ej] at h3
        exact h3
      rw [hR, List.getElem_set]
      have hl1 : (cur.toList.take (i * 51)).length = i * 51 := by simp; omega
      have hl2 : (rowArr 8 (vOf nm)).toList.length = 8 := by simp [rowArr]
      by_cases c1 : j < i * 51
      · rw [if_neg (by omega), List.append_assoc, List.getElem?_append_left (by omega), List.getElem?_take_of_lt c1, hcur]
      · by_cases c2 : j < i * 51 + 8
        · have c3 : i = j / 51 := by omega
          rw [if_pos c3, withW_v, if_pos (by omega), List.append_assoc, List.getElem?_append_right (by omega), List.getElem?_append_left (by omega), hl1]
          have c4 : j - i * 51 < 8 := by omega
          simp only [rowArr, List.getElem?_map, List.getElem?_range c4, Option.map_some]
          rw [show j - i * 51 = j % 51 by omega]
        · have hv : cur.toList[j]? = some (if i = j / 51 then pwV (withW nm x) (j % 51) else pwV F[j / 51] (j % 51)) := by
            rw [hcur]
            split
            · rename_i c3
              rw [withW_v, if_neg (by omega), ← hxe]
              simp only [c3]
            · rfl
          rw [List.getElem?_append_right (by rw [List.length_append]; omega), List.length_append, hl1, hl2, List.getElem?_drop, show i * 51 + 8 + (j - (i * 51 + 8)) = j by omega, hv]
          split <;> rfl
    · rw [List.getElem?_eq_none (by rw [List.length_take]; omega), List.getElem?_eq_none (by rw [encP_len, List.length_set]; omega)]
  · exact h.below.trans (hf.below h.below.size fun j hj e => by omega)
  · have hap : ∀ z : Pw, ApartP v z → PkAt wr z.p z.sa z.sc z.da z.dc → PkAt w' z.p z.sa z.sc z.da z.dc := fun z h1 h2 =>
      h2.apart2 hf (fun hn q hq hb => h1.1 hn q hq (by rw [e]; simp [Value.ownBlock, hb])) (fun hn q hq hb => h1.2 hn q hq (by rw [e]; simp [Value.ownBlock, hb]))
    rcases List.mem_or_eq_of_mem_set hy with h1 | rfl
    · exact ⟨hap y (h.pks y h1).2 (h.pks y h1).1, (h.pks y h1).2⟩
    · have hm : x ∈ F := hxe ▸ List.getElem_mem hi
      have h3 := hap x (h.pks x hm).2 (h.pks x hm).1
      exact ⟨⟨withW_in h3.okk h8 hb, h3.sums, h3.data⟩, (h.pks x hm).2⟩
/-- An array stored into a part of a block. -/
theorem wpList_store_in {ops : Array Oper} {rest : List Oper} {o : Oper} {a : Act} {w : World} {Q : Exit → Act → World → Prop} (hgd : o.guard = none) (ty : TypeId) (x y : Operand) (ho : o.op = .store ty x y)
    (g off : Nat) (cells : Array Value) (hx : a.eval x = .pointer (some ⟨g, off, none⟩)) (hy : a.eval y = .agg cells)
    (t : TypeId) (old : Array Value) (hg : w.heap[g]? = some (.cells old t (0, 0))) (hi : (Tryd.prog.info? ty).map (·.size) = some cells.size) (hold : off + cells.size ≤ old.size) (h1 : cells.all (·.oneCell') = true)
    (h : ∀ w', Hid (w'.heap[g]? = some (.cells (old.toList.take off ++ cells.toList ++ old.toList.drop (off + cells.size)).toArray t (0, 0))) → Hid (Fr (fun k => k = g) w w') → wpList Tryd.prog ops Q rest (a.put o.dst undef) w') : wpList Tryd.prog ops Q (o :: rest) a w := by
  have hrun : (storeVar ty ⟨g, off, none⟩ (.agg cells)).run Tryd.prog w = .ok () (w.setRow g (old.toList.take off ++ cells.toList ++ old.toList.drop (off + cells.size)).toArray) := by
    have := run_storeCells_at (P := Tryd.prog) g off t cells.toList 0 old w hg (by simp; omega) (fun v hv => (Array.all_eq_true_iff_forall_mem.1 h1) v (by simpa using hv))
    cases hq : Tryd.prog.info? ty with
    | none => simp [hq] at hi
    | some i =>
      have hs : cells.size = i.size := by simp [hq] at hi; omega
      simp [storeVar, sizeOf, typeInfo, hq, Value.cells, hs, this]
  refine wpList_plain hgd fun K hK => ?_
  unfold Oper.wp execOp
  simp only [ho, hx, hy, Instr.storeAt, Instr.sureAddr, Sem.run_bind, Sem.run_pure, Result.andThen_ok, hrun]
  exact hK _ _ (h _ (setRow_heap _ _ _ _ _ _ hg) (Fr.setRow (X := fun k => k = g) (Fr.refl _ w) (fun _ => rfl) _))
theorem sms_none (w : World) : Sms w none 0 [] := ⟨fun x hx => (by cases hx), Nat.le_refl _, by unfold maxLen; omega, .inl rfl⟩
section
variable {P : Program} {ops : Array Oper} {Q : Exit → Act → World → Prop} {C : World → Prop} {last : Nat}
/-- A struct that is built, as soon as it may come up. -/
theorem growK_build (hs : Region.noSelect ops = true) (i : Nat) {n : Nat} {listed : Array Bool} {a : Act} {o : Oper} (t : TypeId) (parts : Array (Nat × Operand)) (cells : Array Value) (hi : ops[i]? = some o) (ho : o.op = .build t parts)
    (hil : i ≠ last) (hlo : loose ops i = false) (hsink : sinkB ops last listed = true) (hlu : listed.getD last true = false) (hf : Region.free .any ops listed i = true) (hr : (Region.ready .any ops listed).contains i = true)
    (hwt : Region.wanted o (yielded ops a.tmps) = true) (hc : P.built t (parts.map fun (i, x) => (i, a.eval x)).toList = some cells) (w : World) (hw : C w)
    (h : wpAnyT P ops (NoPanic Q) C last n (listed.setIfInBounds i true) (a.put o.dst (.agg cells)) w) : wpAnyT P ops (NoPanic Q) C last (n + 1) listed a w :=
  wpAnyT_take hi hil hlo (sink_of hsink) hlu hs hf hr (fun _ _ _ h => h) (.inl ⟨hwt, fun w _ => by
    unfold execOp
    simp only [ho, Sem.run_bind, run_build w t _ cells hc, Result.andThen_ok]
    rfl⟩) hw h
end
end Go.Proofs.YtechekkojinkmaaDoor
end

section
namespace Go.Proofs.YtechekkojinkmaaDoor
open Go.ChangeShapes Go.WideShapes Go.ChangeAt Go.RowKit Go.Joins
set_option linter.unusedVariables false

/-- A set's name, and its directory. -/
def nameS (S : St) : List Nat := nameOf (dirTo S S.files.length)
def dirS (S : St) : List Pk := (dirTo S S.files.length).map (withSet (nameS S))
def DirPost (S : St) (w : World) (e : Ending) (w' : World) : Prop :=
  (FormedP S → ∃ v F, e = .returned (.tuple #[v, .int .i64 0]) ∧ PSt w w' v F ∧ F.map (·.p) = dirS S) ∧ (¬ FormedP S → e = .returned (.tuple #[.slice none 0 0, .int .i64 1]) ∧ Below w.heap.size w w')
theorem PSt.first {w0 w : World} {g : Nat} {f : Pw} (hg : w.heap[g]? = some (.cells (rowArr 51 (pwV f)) 44 (0, 0))) (h0 : w0.heap.size ≤ g) (hb : Below w0.heap.size w0 w) (hp : PkAt w f.p f.sa f.sc f.da f.dc)
    (h1 : f.p.sums = []) (h2 : f.p.data = []) : PSt w0 w (.slice (some ⟨g, 0, none⟩) 1 1) [f] := by
  refine ⟨⟨by rw [encP_len], .inr ⟨g, 1, _, rfl, h0, hg, Nat.le_refl _, by unfold maxLen; omega, by rw [rowArr_size], ?_⟩⟩, hb, fun x hx => ?_⟩
  · simp only [encP, List.flatMap_cons, List.flatMap_nil, List.append_nil, rowArr, List.length_singleton, oneP]
    exact List.take_of_length_le (by simp)
  · obtain rfl : x = f := by simpa using hx
    exact ⟨hp, fun h => absurd h1 h, fun h => absurd h2 h⟩
set_option maxRecDepth 1000000 in
set_option maxHeartbeats 16000000 in
theorem directory_any (S : St) (fa : Option Addr) (fc : Nat) (sa : Option Addr) (sc : Nat) (w : World) (hs : SetAt w S fa fc sa sc) (hm : Mx w) (ht : Tabs w) (hsn : sa = none → sc = 0) :
    Calls Tryd.prog 7 #[.agg (rowArr 3 (setV S fa fc sa sc))] w (DirPost S w) := by
  have mixed : Tryd.prog.follows .mixedOrders = true := by kernel_rfl
  have hB0 : Below w.heap.size w (w.alloc (.cells (rowArr 3 (setV S fa fc sa sc)) 25)) := (Below.refl _ _).alloc (Nat.le_refl _) _
  have HX := Lib.hid (SetBox.new w S fa fc sa sc)
  have HXB : Hid ((w.alloc (.cells (rowArr 3 (setV S fa fc sa sc)) 25)).heap[w.heap.size]? = some (.cells (rowArr 3 (setV S fa fc sa sc)) 25 (0, 0))) := heap_alloc_last w _
  have HS := Lib.hid (hs.below hB0)
  have HM := Lib.hid (hm.below hB0)
  have HT := Lib.hid (ht.below hB0)
  have HB := Lib.hid hB0
  have HF1 := Lib.hid (formed_any S fa fc sa sc _ (hs.below hB0) (hm.below hB0))
  have hfl := hs.files.lt
  have hsl := hs.slices.lt
  obtain ⟨sr1, sr2⟩ := hs.slice
  obtain ⟨PQ, hPQ⟩ : ∃ PQ, PQ = DirPost S w := ⟨_, rfl⟩
  have HPQ := Lib.hid hPQ
  rw [← hPQ]
  obtain ⟨arr, harr⟩ : ∃ arr, arr = rowArr 3 (setV S fa fc sa sc) := ⟨_, rfl⟩
  have HAR : Hid (arr.size = 3) := by show _ = _; rw [harr, rowArr_size]
  rw [← harr] at HX HXB HS HM HT HB HF1 ⊢
  clear harr hB0 hs hm ht hPQ
  go_enter Tryd.func7, Tryd.ntmps7
  go_upto_region 1 with fail
  obtain ⟨b, hb⟩ : ∃ b, b = w.heap.size := ⟨_, rfl⟩
  rw [← hb] at HX HXB ⊢
  generalize w.alloc (.cells arr 25) = w1 at *
  clear hb
  by_cases hF : FormedP S
  case' neg =>
    have HNF := Lib.hid hF
    clear hF
    go_wp2_with (first
      | (refine wpList_load_row rfl 25 _ rfl b rfl 25 arr (0, 0) _ HXB.out Tryd.underlying25 rfl (by rw [HAR.out]; kernel_rfl) ?_)
      | (go_at_call 10; (with_reducible refine HF1.out.mono ?_); rintro e w2 ⟨⟨r, rfl, hr⟩, b2⟩; obtain rfl : r = false := Bool.eq_false_iff.2 (fun h => HNF.out (hr.1 h)); have HR : Hid (PQ (.returned (.tuple #[.slice none 0 0, .int .i64 1])) w2) := (by show PQ _ _; rw [HPQ.out]; exact ⟨fun h => absurd h HNF.out, fun _ => ⟨rfl, HB.out.trans (b2.mono HB.out.size)⟩⟩); clear hr b2))
    exact HR.out
  have HFO := Lib.hid hF
  clear hF
  go_upto_region 3 with (first
      | (refine wpList_load_row rfl 25 _ rfl b rfl 25 arr (0, 0) _ HXB.out Tryd.underlying25 rfl (by rw [HAR.out]; kernel_rfl) ?_)
      | (go_at_call 10; (with_reducible refine HF1.out.mono ?_); rintro e w2 ⟨⟨r, rfl, hr⟩, b2⟩; obtain rfl : r = true := hr.2 HFO.out; have HB2 := Lib.hid b2; clear hr b2))
  clear HF1 HXB
  have HX2 := Lib.hid (HX.out.below HB2.out)
  have HS2 := Lib.hid (HS.out.below HB2.out)
  have HM2 := Lib.hid (HM.out.below HB2.out)
  have HT2 := Lib.hid (HT.out.below HB2.out)
  have HBW : Hid (Below w.heap.size w w2) := HB.out.trans (HB2.out.mono HB.out.size)
  clear HX HS HM HT HB HB2
  have hf := HFO.out
  have s1 := hf.s1
  have s2 := hf.s2
  have hM64 := hf.m1
  have hL8 := hf.f2
  have hL1 := hf.f1
  have HD : Hid (DirIn S) := ⟨HS2.out.slice, HS2.out.files.rng, HS2.out.slices.rng, s1, s2, hM64, hL8⟩
  clear hf
  have c0 := HX2.out.c0
  have c1 := HX2.out.c1
  have c2 := HX2.out.c2
  go_upto_region 4 with fail
  change Code.wp _ _ _ _ (w2.alloc (.cells (rowArr 51 (pwV ⟨mainP S, none, 0, none, 0⟩)) 44))
  have z0 : PkAt w2 (mainP S) none 0 none 0 := ⟨pkIn_main HD.out.slice (by omega) (by omega), sms_none _, nil_sl _⟩
  have b3 : Below w2.heap.size w2 (w2.alloc (.cells (rowArr 51 (pwV ⟨mainP S, none, 0, none, 0⟩)) 44)) := (Below.refl _ _).alloc (Nat.le_refl _) _
  have HP0 : Hid (PSt w2 (w2.alloc (.cells (rowArr 51 (pwV ⟨mainP S, none, 0, none, 0⟩)) 44)) (.slice (some ⟨w2.heap.size, 0, none⟩) 1 1) [⟨mainP S, none, 0, none, 0⟩]) := PSt.first (heap_alloc_last w2 _) (Nat.le_refl _) b3 (z0.below b3) rfl rfl
  generalize w2.alloc (.cells (rowArr 51 (pwV ⟨mainP S, none, 0, none, 0⟩)) 44) = w3 at *
  generalize Value.slice (some ⟨w2.heap.size, 0, none⟩) 1 1 = v3 at *
  clear c0 c1 c2 b3 z0
  have c1 := (HX2.out.below HP0.out.below).c1
  have HG0 : Hid (Good S 0 0) := .zero
  have HF0 : Hid (List.map (fun f : Pw => f.p) [⟨mainP S, none, 0, none, 0⟩] = dirTo S 0) := rfl
  go_wp2_with fail
  clear c1
  go_loopw [4, 26] (fun t i wr => ∃ (n k : Nat) (v : Value) (F : List Pw), k ≤ S.files.length ∧ t = v ∧ i = .int .i64 k ∧ Hid (Good S k n) ∧ Hid (PSt w2 wr v F) ∧ Hid (F.map (fun f => f.p) = dirTo S k)) (fun _ i _ => S.files.length - (intOf i).toNat)
  case atStart => exact ⟨0, 0, v3, _, by omega, rfl, rfl, HG0, HP0, HF0⟩
  case round =>
    obtain ⟨n, k, v, F, hk, rfl, rfl, HG, HP, HFD⟩ := hrel
    clear HG0 HP0 HF0
    by_cases hlt : k < S.files.length
    · have hok1 := not_formed HG.out hlt HFO.out
      obtain ⟨fb, off, rfl, hbl, hx⟩ := fils_one (HS2.out.files.below HP.out.below) hlt
      have hok := HS2.out.files.rng _ (List.getElem_mem hlt)
      have hgd : S.files.getD k zFil = S.files[k] := by simp [List.getD, hlt]
      obtain ⟨f, hf⟩ : ∃ f, f = S.files[k] := ⟨_, rfl⟩
      rw [← hf] at hx hok hgd
      have hfst : f.first = (n : Int) := hgd ▸ hok1.first
      have hroom := hok1.room
      have HPT : Hid (partS S k = (S.slices.drop n).take (cntN f.size S.slice)) := by
        show _ = _
        unfold partS
        rw [hgd, hfst, Int.toNat_natCast]
      rw [hgd] at hroom
      have HOK1 := Lib.hid hok1
      have HGD := Lib.hid hgd
      have HOK := Lib.hid hok
      have HXC := Lib.hid hx
      obtain ⟨SX, hSX⟩ : ∃ SX, SX = rowArr 35 (filV f) := ⟨_, rfl⟩
      have VX : Hid (rowArr 35 (filV f) = SX) := hSX.symm
      have hSXs : SX.size = 35 := by rw [hSX, rowArr_size]
      have hSX1 : SX.all (·.oneCell') = true := by rw [hSX]; exact oneCell_fil f
      have HSXs := Lib.hid hSXs
      have HSX1 := Lib.hid hSX1
      have HALL : Hid (∀ c : Array Value, (wr.alloc (.cells c 41)).heap[wr.heap.size]? = some (.cells c 41 (0, 0))) := fun c => heap_alloc_last wr _
      have HALB : Hid (∀ c : Array Value, Below wr.heap.size wr (wr.alloc (.cells c 41))) := fun c => (Below.refl _ _).alloc (Nat.le_refl _) _
      clear hx hok hf hSX hSXs hSX1 hgd hok1
      obtain ⟨c, hc⟩ : ∃ c, c = cntN f.size S.slice := ⟨_, rfl⟩
      rw [← hc] at hroom HPT
      have HCC := Lib.hid hc
      have hc63 : c ≤ 64 := by omega
      clear hc
      go_upto_region 7 with (first
        | (refine wpList_load_v (by rfl) 41 _ rfl fb (off + k * 35) 35 _ SX VX.out rfl _ HXC.out und_file rfl (by kernel_rfl) ?_)
        | (refine wpList_store_arr rfl 41 _ _ rfl wr.heap.size SX rfl rfl 41 _ (HALL.out _) (by rw [HSXs.out]; kernel_rfl) (by rw [HSXs.out]; rfl) HSX1.out ?_; intro w7 HC7 hf7; have HB67 : Hid (Below wr.heap.size wr w7) := (HALB.out _).trans (hf7.out.below (HALB.out _).size (fun k hk e => by omega)); clear hf7 HALL HALB))
      have HP7 := Lib.hid (HP.out.later HB67.out)
      have HNE : Hid (u4.ownBlock ≠ some wr.heap.size) := fun e => by have := (HP.out.own.at e).2; omega
      obtain ⟨g, hg⟩ : ∃ g, g = wr.heap.size := ⟨_, rfl⟩
      rw [← hg] at HC7 HNE
      rw [← hg]
      rw [← VX.out] at HC7
      have hX7 : Row w7 g 41 35 35 (filV f) := Row.of_whole HC7.out
      obtain ⟨r0, r1, r34⟩ := fil_row hX7
      rw [hfst] at r34
      have k1 := cell_regrown r1
      have k34 := cell_regrown r34
      have kb0 := cell_regrown (HX2.out.below HP7.out.below).c0
      have CN := fun d os => Calls.regrown_of (v := .int .i64 (c : Nat)) ((rcount_any f.size S.slice (Go.Sort.grow (redrawn w7 d) os) HOK.out.size HS2.out.slice).mono fun e w' ⟨he, hw⟩ => ⟨by rw [he, HCC.out], hw ▸ Below.refl _ _⟩)
      clear HB67 HXC HSXs HSX1 hg HP r0 r1 r34
      refine wp_region_quiet_below mixed (by kernel_rfl) ?_
      repeat (first | go_big_quiet_step (exact CN _ _) | quiet_step (exact CN _ _))
      refine wpQuiet_nil ?_
      intro _ hw'
      obtain ⟨⟨dq, osq⟩, hw''⟩ := hw'
      subst hw''
      have HP8 := Lib.hid (HP7.out.later (below_regrown w7 dq osq))
      have HC8 : Hid ((Go.Sort.grow (redrawn w7 dq) osq).heap[g]? = some (.cells (rowArr 35 (filV f)) 41 (0, 0))) := ((below_regrown w7 dq osq).block g (Array.getElem?_eq_some_iff.1 HC7.out).1).trans HC7.out
      clear k1 k34 kb0 CN HC7 HP7 hX7
      generalize Go.Sort.grow (redrawn w7 dq) osq = w8 at *
      have hFl : F.length = 2 * k + 1 := by rw [← dirTo_len S k, ← HFD.out, List.length_map]
      have hln : (partS S k).length = c := by rw [HPT.out, List.length_take, List.length_drop]; omega
      obtain ⟨wd, hwd⟩ : ∃ wd, wd = w8.drew := ⟨_, rfl⟩
      have HPD : Hid (PSt w2 wd u4 F) := by rw [hwd]; exact HP8.out.later (Below.refl _ _).drew
      have hCD : wd.heap[g]? = some (.cells (rowArr 35 (filV f)) 41 (0, 0)) := by rw [hwd]; exact HC8.out
      have hgl := (Array.getElem?_eq_some_iff.1 hCD).1
      have hXD := HX2.out.below HPD.out.below
      have hbl2 : b < w2.heap.size := World.block_lt_of_cell? w2 _ HX2.out.c0
      have hbl3 : b < wd.heap.size := World.block_lt_of_cell? wd _ hXD.c0
      have hbo : ¬ u4.ownBlock = some b := fun e => by have := (HPD.out.own.at e).1; omega
      have k44 : ∀ u : KeepW wd (fun j => u4.ownBlock = some j), u.v.cell? ⟨b, 2, none⟩ = some (.slice sa S.slices.length sc) := fun u => (u.cell hbl3 hbo).trans hXD.c2
      have k46 : ∀ u : KeepW wd (fun j => u4.ownBlock = some j), u.v.cell? ⟨g, 34, none⟩ = some (.int .i64 (n : Int)) := fun u => (u.cell hgl HNE.out).trans (by rw [cell_of_block hCD, ← hfst]; rfl)
      have KX : Hid (∀ u : KeepW wd (fun j => u4.ownBlock = some j), ∀ j, j < 35 → u.v.cell? ⟨g, 0 + j, none⟩ = some (filV f j)) := fun u j hj => (u.cell hgl HNE.out).trans (by rw [cell_of_block hCD, Nat.zero_add]; simp [rowArr, hj])
      obtain ⟨a2, cap2, hsl2, hsm2, hz2⟩ := sms_slice2 (HS2.out.slices.below HPD.out.below) n c hroom hsn
      obtain ⟨FA, hFA⟩ : ∃ FA, FA = rowArr 51 (pwV ⟨fileP k f, none, 0, none, 0⟩) := ⟨_, rfl⟩
      have HFA := Lib.hid hFA
      have hbf := built_file2 k f
      rw [VX.out] at hbf
      have HBF : Hid (Tryd.prog.built 44 [(1, .int .i64 2), (5, .int .i64 (k : Int)), (6, .agg SX)] = some FA) := by show _ = _; rw [hbf, hFA]; rfl
      rw [← HPT.out] at hsm2
      have hCl := cloneSm_any a2 cap2 (partS S k) wd (by omega) hsm2 hz2
      rw [hln] at hCl
      have HCL := Lib.hid hCl
      have HLN := Lib.hid hln
      have HGL := Lib.hid hgl
      clear hFA hbf hCl hln hsm2 hz2 hXD hbl2 hbl3 hbo hCD HC8 HP8
      go_wp2_with fail
      refine growK_begin 15 (fun w' => ∃ u : KeepW wd (fun j => u4.ownBlock = some j), w' = u.v) (by kernel_rfl) ?_
      rw [← hwd]
      clear hwd
      refine growK_take (by kernel_rfl) [0, 1, 2] 13 _ _ (by kernel_rfl) _ (keep_class (Fr.refl _ _)) ?_
      simp only [opsAt, List.getElem?_toArray, List.getElem?_cons_succ, List.getElem?_cons_zero]
      repeat (first
        | (refine wpQuiet_load_v (by rfl) 41 _ rfl g 0 35 _ SX VX.out rfl _ (fun w hw j hj => by obtain ⟨u, rfl⟩ := hw; exact KX.out u j hj) und_file rfl (by kernel_rfl) ?_)
        | go_big_quiet_step (fail) | quiet_step (fail))
      refine wpQuiet_nil ?_
      refine growK_build (by kernel_rfl) 3 44 _ FA rfl rfl (by decide) (by kernel_rfl) (by kernel_rfl) (by kernel_rfl) (by kernel_rfl) (by kernel_rfl) (by rfl) (by go_simp; exact HBF.out) _ (keep_class (Fr.refl _ _)) ?_
      refine growK_take (by kernel_rfl) [4, 5, 6, 7, 8, 9, 10] 5 _ _ (by kernel_rfl) _ (keep_class (Fr.refl _ _)) ?_
      simp only [opsAt, List.getElem?_toArray, List.getElem?_cons_succ, List.getElem?_cons_zero]
      repeat (first | go_big_quiet_step (fail) | quiet_step (fail))
      refine wpQuiet_nil ?_
      clear k44 k46 hsl2 KX
      refine growK_one 11 (by kernel_rfl) (fun K hK => ?_)
      simp only [stepOf, List.getElem?_toArray, List.getElem?_cons_succ, List.getElem?_cons_zero]
      go_simp
      go_at_call 25
      (with_reducible refine HCL.out.mono ?_)
      rintro e w9 ⟨sa9, sc9, rfl, hs9, hq9, hb9⟩
      have HS9 := Lib.hid hs9
      have HQ9 := Lib.hid hq9
      have HB9 := Lib.hid hb9
      refine hK.out _ _ (keep_class (Fr.of_below HB9.out)) ?_
      clear hK K HCL hs9 hq9 hb9
      obtain ⟨SA, hSA⟩ : ∃ SA, SA = rowArr 51 (pwV ⟨sumsP k (partS S k), sa9, sc9, none, 0⟩) := ⟨_, rfl⟩
      have HSA := Lib.hid hSA
      have hbu := built_sums2 k (partS S k) sa9 sc9
      rw [HLN.out] at hbu
      have HBU : Hid (Tryd.prog.built 44 [(1, .int .i64 3), (5, .int .i64 (k : Int)), (7, .slice sa9 c sc9)] = some SA) := by show _ = _; rw [hbu, hSA]; rfl
      clear hSA hbu
      refine growK_one 12 (by kernel_rfl) (fun K hK => ?_)
      simp only [stepOf, List.getElem?_toArray, List.getElem?_cons_succ, List.getElem?_cons_zero]
      rw [if_pos (by rfl)]
      refine op_build 44 _ rfl SA (by go_simp; exact HBU.out) ?_
      refine hK.out _ _ (keep_class (Fr.of_below HB9.out)) ?_
      clear hK K
      refine growK_one 13 (by kernel_rfl) (fun K hK => ?_)
      simp only [stepOf, List.getElem?_toArray, List.getElem?_cons_succ, List.getElem?_cons_zero]
      rw [if_pos (by rfl)]
      refine op_two _ _ rfl ⟨fileP k f, none, 0, none, 0⟩ ⟨sumsP k (partS S k), sa9, sc9, none, 0⟩ (congrArg Value.agg HFA.out) (congrArg Value.agg HSA.out) ?_
      have HB10 : Hid (Below w9.heap.size w9 (w9.alloc (.cells (rowArr 102 fun j => if j < 51 then pwV ⟨fileP k f, none, 0, none, 0⟩ j else pwV ⟨sumsP k (partS S k), sa9, sc9, none, 0⟩ (j - 51)) 44))) := (Below.refl _ _).alloc (Nat.le_refl _) _
      have HTC := Lib.hid (two_cells (heap_alloc_last w9 (.cells (rowArr 102 fun j => if j < 51 then pwV ⟨fileP k f, none, 0, none, 0⟩ j else pwV ⟨sumsP k (partS S k), sa9, sc9, none, 0⟩ (j - 51)) 44 (0, 0))))
      generalize w9.alloc (.cells (rowArr 102 fun j => if j < 51 then pwV ⟨fileP k f, none, 0, none, 0⟩ j else pwV ⟨sumsP k (partS S k), sa9, sc9, none, 0⟩ (j - 51)) 44) = w10 at *
      have HBw : Hid (Below wd.heap.size wd w10) := HB9.out.trans (HB10.out.mono HB9.out.size)
      refine hK.out _ _ (keep_class (Fr.of_below HBw.out)) ?_
      clear hK K
      have HPt := Lib.hid (HPD.out.later HBw.out)
      have hkok := pkIn_file (i := k) (by omega) HOK.out
      have hsok := pkIn_sums (i := k) (l := partS S k) (by omega) HS9.out.rng
      have HG1 : Hid (∀ x ∈ [(⟨fileP k f, none, 0, none, 0⟩ : Pw), ⟨sumsP k (partS S k), sa9, sc9, none, 0⟩], PkAt w10 x.p x.sa x.sc x.da x.dc ∧ ApartP u4 x) := fun x hx => by
        simp only [List.mem_cons, List.mem_nil_iff, or_false] at hx
        rcases hx with rfl | rfl
        · exact ⟨⟨hkok, sms_none _, nil_sl _⟩, fun h => absurd rfl h, fun h => absurd rfl h⟩
        · exact ⟨⟨hsok, HS9.out.below HB10.out, nil_sl _⟩, fun _ q hq e => by have := (HPD.out.own.at e).2; have := HQ9.out q hq; omega, fun h => absurd rfl h⟩
      have hsz : w2.heap.size ≤ w10.heap.size := HPt.out.below.size
      clear hkok hsok
      refine growK_one 14 (by kernel_rfl) (fun K hK => ?_)
      simp only [stepOf, List.getElem?_toArray, List.getElem?_cons_succ, List.getElem?_cons_zero]
      rw [if_pos (by rfl)]
      refine op_push_p _ (.tmp 39) (.tmp 52) rfl w2.heap.size u4 F rfl HPt.out.own w9.heap.size 0 2 2 rfl [⟨fileP k f, none, 0, none, 0⟩, ⟨sumsP k (partS S k), sa9, sc9, none, 0⟩] rfl HTC.out hsz (by omega) (by omega) ?_
      intro v11 w11 o11 g11 e11
      have HP11 := Lib.hid (HPt.out.push HG1.out o11.out g11.out e11.out)
      have HF11 : Hid (List.map (fun f : Pw => f.p) (F ++ [⟨fileP k f, none, 0, none, 0⟩, ⟨sumsP k (partS S k), sa9, sc9, none, 0⟩]) = dirTo S (k + 1)) := by
        show _ = _
        rw [List.map_append, HFD.out, dirTo, HGD.out]
        rfl
      have F11 : Hid (Fr (fun j => u4.ownBlock = some j) wd w11) := (Fr.of_below HBw.out).trans (Fr.of_grown g11.out fun b e => e)
      refine hK.out _ _ (keep_class F11.out) ?_
      clear hK K o11 g11 e11 HG1 HPt HTC
      have HG2 : Hid (Good S (k + 1) (n + c)) := by
        have := Good.next HG.out hlt HOK1.out
        rw [HGD.out, ← HCC.out] at this
        exact this
      refine growK_last (by kernel_rfl) (by kernel_rfl) (fun K hK => ?_)
      simp only [stepOf, List.getElem?_toArray, List.getElem?_cons_succ, List.getElem?_cons_zero]
      go_simp
      refine hK.out _ _ ?_
      clear hK K F11
      go_wp2_with fail
      go_roundw
      case rel => exact ⟨n + c, k + 1, v11, _, by omega, rfl, by go_num, HG2, HP11, HF11⟩
      case measure => simp [intOf]; omega
    · obtain rfl : k = S.files.length := by omega
      have hFl : F.length = 2 * S.files.length + 1 := by rw [← dirTo_len S S.files.length, ← HFD.out, List.length_map]
      obtain ⟨av, cv, hv, _, _⟩ := HP.out.own.slice
      subst hv
      obtain ⟨g0, rfl, hg0, hcx⟩ := HP.out.own.cells (i := 0) (by omega)
      obtain ⟨d1, d2⟩ := dir_ok HD.out HG.out
      rw [← HFD.out] at d1 d2
      have hgr := HG.out.room
      have dm : ∀ f ∈ F, PkIn f.p ∧ pkOk f.p ∧ f.p.file.name.length ≤ 40 ∧ f.p.data = [] ∧ f.p.set = z8 := fun f hf => d1 _ (List.mem_map.2 ⟨f, hf, rfl⟩)
      have hNM := named_any _ cv F wr HP.out.sl (fun f hf => (dm f hf).2.1) (by omega) (by omega) (fun f hf => by have := (dm f hf).2.2.1; omega) (fun f hf => by rw [(dm f hf).2.2.2.1]; simp) (HT2.out.below HP.out.below)
      have hnS : nameOf (F.map (·.p)) = nameS S := by rw [HFD.out]; rfl
      rw [hnS] at hNM
      have h8 : (nameS S).length = 8 := nameOf_len _
      have hb8 : IsByte (nameS S) := nameOf_byte _
      obtain ⟨NA, hNA⟩ : ∃ NA, NA = rowArr 8 (vOf (nameS S)) := ⟨_, rfl⟩
      have VN : Hid (rowArr 8 (vOf (nameS S)) = NA) := hNA.symm
      have HNs : Hid (NA.size = 8) := by show _ = _; rw [hNA, rowArr_size]
      have HN1 : Hid (NA.all (·.oneCell') = true) := by show _ = _; rw [hNA]; exact oneCell_v _ 8
      rw [← hNA] at hNM
      have HNM := Lib.hid hNM
      have H8 := Lib.hid h8
      have HB8 := Lib.hid hb8
      clear hcx
      have hFb : F.length ≤ 17 := by omega
      have hFp : 0 < F.length := by omega
      clear d1 d2 dm hNM hnS hNA h8 hb8 hgr hFl
      go_upto_region 11 with (first
        | (go_at_call 26; (with_reducible refine HNM.out.mono ?_); rintro e w4 ⟨rfl, b4⟩; have HB4 := Lib.hid b4; clear b4 HNM; have HALL : Hid (∀ c : Array Value, (w4.alloc (.cells c 32)).heap[w4.heap.size]? = some (.cells c 32 (0, 0))) := (fun c => heap_alloc_last w4 _); have HALB : Hid (∀ c : Array Value, Below w4.heap.size w4 (w4.alloc (.cells c 32))) := (fun c => (Below.refl _ _).alloc (Nat.le_refl _) _))
        | (refine wpList_store_arr rfl 32 _ _ rfl w4.heap.size NA rfl rfl 32 _ (HALL.out _) (by rw [HNs.out]; kernel_rfl) (by rw [HNs.out]; rfl) HN1.out ?_; intro w5 HC5 hf5; have HB5 : Hid (Below w4.heap.size w4 w5) := (HALB.out _).trans (hf5.out.below (HALB.out _).size (fun k hk e => by omega)); clear hf5 HALL HALB))
      have hg8 : g0 < w4.heap.size := Nat.lt_of_lt_of_le hg0 HB4.out.size
      obtain ⟨g8, hg8e⟩ : ∃ g8, g8 = w4.heap.size := ⟨_, rfl⟩
      rw [← hg8e] at HC5 hg8
      rw [← hg8e]
      have HP5 : Hid (PSt w2 w5 (.slice (some ⟨g0, 0, none⟩) F.length cv) (upTo (nameS S) F 0)) := (HP.out.later HB4.out).later HB5.out
      clear hg8e HB4 HB5 HP
      go_wp2_with fail
      go_loopw [59] (fun i wr => ∃ k : Nat, k ≤ F.length ∧ i = .int .i64 k ∧ Hid (PSt w2 wr (.slice (some ⟨g0, 0, none⟩) F.length cv) (upTo (nameS S) F k)) ∧ Hid (wr.heap[g8]? = some (.cells NA 32 (0, 0)))) (fun i _ => F.length - (intOf i).toNat)
      case atStart => exact ⟨0, by omega, rfl, HP5, HC5⟩
      case round =>
        obtain ⟨k, hk, rfl, HP, HC⟩ := hrel
        clear HP5 HC5
        by_cases hlt : k < F.length
        · obtain ⟨g1, c1, cur, e1, hcur, hrm, hnx⟩ := HP.out.mark (upTo_at hlt) (nameS S) H8.out HB8.out
          injection e1 with e1 e2 e3
          injection e1 with e1
          injection e1 with e1
          subst e1
          rw [upTo_next hlt] at hnx
          have HNX := Lib.hid hnx
          have HCUR := Lib.hid hcur
          have HRM : Hid (k * 51 + NA.size ≤ cur.size) := by show _ ≤ _; rw [HNs.out]; exact hrm
          have HC8 : Hid (∀ j, j < 8 → wr.cell? ⟨g8, 0 + j, none⟩ = some (vOf (nameS S) j)) := fun j hj => by
            rw [cell_of_block HC.out, Nat.zero_add, ← VN.out]
            simp [rowArr, hj]
          clear hnx hcur hrm e2 e3
          go_upto_region 15 with (first
            | (refine wpList_load_v (by rfl) 32 _ rfl g8 0 8 _ NA VN.out rfl _ HC8.out Tryd.underlying32 rfl (by kernel_rfl) ?_)
            | (refine wpList_store_in rfl 32 _ _ rfl g0 (k * 51) NA (by go_simp) rfl 44 cur HCUR.out (by rw [HNs.out]; kernel_rfl) HRM.out HN1.out ?_; intro w9 HG9 HF9))
          have HP9 := Lib.hid (HNX.out w9 (by have := HG9.out; rw [HNs.out, ← VN.out] at this; exact this) HF9.out)
          have HC9 : Hid (w9.heap[g8]? = some (.cells NA 32 (0, 0))) := (HF9.out.block g8 (Array.getElem?_eq_some_iff.1 HC.out).1 (fun e => by omega)).trans HC.out
          clear HG9 HF9
          go_wp2_with fail
          go_roundw
          case rel => exact ⟨k + 1, by omega, by go_num, HP9, HC9⟩
          case measure => simp [intOf]; omega
        · obtain rfl : k = F.length := by omega
          have HR : Hid (PQ (.returned (.tuple #[.slice (some ⟨g0, 0, none⟩) F.length cv, .int .i64 0])) wr) := by
            show PQ _ _
            rw [HPQ.out]
            exact ⟨fun _ => ⟨_, _, rfl, HP.out.base HBW.out, by rw [upTo_all, HFD.out]; rfl⟩, fun h => absurd HFO.out h⟩
          go_wp2_with fail
          exact HR.out
end Go.Proofs.YtechekkojinkmaaDoor
end
