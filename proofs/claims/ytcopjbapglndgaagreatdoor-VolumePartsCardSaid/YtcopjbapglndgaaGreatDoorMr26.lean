/-
  A symbol's packet; a row of packets beside a box and a row of symbols.
  Make of volume, walked.
  Bytes gathered by append, and a box beside them.
  Rows of uint32s of one's own: made by append.
  CutMakes, walked.
  What the listed tables of package sum give, where start and rounds alone are listed; the heap of the door's own run meets the condition.
  What the listed variables give the walks of cut's law; files that are handed in; the laid heap meets the condition.
  IDs that are handed in, and how many there can be.
  The frame of a law that lists variables, with the shape of the world, and how large what came in can be, handed on to the walk.
-/
import Derived.Test.YtcopjbapglndgaaGreatDoorMr25
import Derived.Test.YtcopjbapglndgaaGreatDoorTie
import Derived.Test.YtcopjbapglndgaaGreatDoorCards
import Derived.SevenTiedAt
import Derived.LaidMore
import Derived.Stop.Joined
import Derived.SizedLaws
import Derived.ChangeOld
import Derived.LaidLaws
import Derived.Stop.LaidErr
import Derived.Lay
import Derived.Lib.LaidTab
import Derived.Test.YtcopjbapglndgaaGreatDoorRows
import Derived.Handed
import Derived.JoinedTies
section
namespace Go.Proofs.YtcopjbapglndgaaGreatDoor
open Go.ChangeShapes Go.WideShapes Go.ChangeAt Go.RowKit Go.Joins
set_option linter.unusedVariables false

def symP (nm d : List Nat) (id : Nat) : Pk := ⟨nm, 4, 0, 0, 0, 0, zFil, [], id, d⟩
def symW (nm d : List Nat) (id : Nat) (da : Option Addr) (dc : Nat) : Pw := ⟨symP nm d id, none, 0, da, dc⟩
theorem built_sym (V : Nat → Value) (id : Int) (da : Option Addr) (n dc : Nat) : Tryz.prog.built 75 [(0, .agg (rowArr 8 V)), (1, .int .i64 4), (8, .int .u32 id), (9, .slice da n dc)] = some (rowArr 51 fun j => if j < 8 then V j else if j = 49 then .int .u32 id else if j = 50 then .slice da n dc else pkV ⟨z8, 4, 0, 0, 0, 0, zFil, [], 0, []⟩ none 0 none 0 j) := by kernel_rfl
theorem built_sym2 (nm d : List Nat) (id : Nat) (da : Option Addr) (dc : Nat) : Tryz.prog.built 75 [(0, .agg (rowArr 8 (vOf nm))), (1, .int .i64 4), (8, .int .u32 (id : Int)), (9, .slice da d.length dc)] = some (rowArr 51 (pwV (symW nm d id da dc))) := by
  rw [built_sym]
  refine congrArg some (rowArr_congr fun j hj => ?_)
  by_cases h1 : j < 8
  · rw [if_pos h1]
    exact (pkV_set (symP nm d id) none 0 da dc h1).symm
  by_cases h2 : j = 49
  · subst h2; rfl
  by_cases h3 : j = 50
  · subst h3; rfl
  rw [if_neg h1, if_neg h2, if_neg h3]
  unfold pwV symW pkV symP
  rw [if_neg h1, if_neg h1]
  (repeat' split) <;> first | rfl | omega
theorem builtS_sym (V : Nat → Value) : Tryz.prog.builtSlice 75 1 [(0, .agg (rowArr 51 V))] = some (rowArr 51 V) := by kernel_rfl
theorem op_oneP {o : Oper} {a : Act} {w : World} {K : Act → World → Prop} {Q : Exit → Act → World → Prop} (x : Operand) (ho : o.op = .buildSlice 68 1 #[(0, x)]) (f : Pw) (hx : a.eval x = .agg (rowArr 51 (pwV f)))
    (h : K (a.put o.dst (.slice (some ⟨w.heap.size, 0, none⟩) 1 1)) (w.alloc (.cells (rowArr 51 (pwV f)) 75))) : o.wp Tryz.prog a w K Q := by
  have hf := builtS_sym (pwV f)
  unfold Program.builtSlice at hf
  cases hie : Tryz.prog.info? 75 with
  | none => simp [hie] at hf
  | some ie =>
    simp only [hie] at hf
    cases hz : ie.zero with
    | none => simp [hz] at hf
    | some z =>
      simp only [hz] at hf
      by_cases hc : 1 * ie.size > 2 ^ 24 ∨ 1 * ie.size = 0
      · rw [if_pos hc] at hf; cases hf
      · rw [if_neg hc] at hf
        refine wp_buildSlice 68 75 1 _ ho _ ie z Tryz.underlying68 hie hz (fun h' => hc (Or.inl h')) (fun h' => hc (Or.inr h')) ?_ h
        simp only [List.map_toArray, List.map_cons, List.map_nil, hx]
        exact hf
theorem one_cells {w' : World} {f : Pw} {g : Nat} (hg : w'.heap[g]? = some (.cells (rowArr 51 (pwV f)) 75 (0, 0))) :
    ∀ i (h : i < [f].length) k, k < 51 → w'.cell? ⟨g, 0 + i * 51 + k, none⟩ = some (pwV [f][i] k) := fun i hi k hk => by
  rw [cell_of_block hg]
  simp only [List.length_cons, List.length_nil] at hi
  obtain rfl : i = 0 := by omega
  simp [rowArr, hk]
theorem symP_in {nm d : List Nat} {id : Nat} (h8 : nm.length = 8) (hn : IsByte nm) (hid : id < 4294967296) (hd : IsByte d) : PkIn (symP nm d id) := by
  have z := i64R_small 0 (by decide)
  exact ⟨h8, hn, i64R_small 4 (by decide), z, z, z, z, zFil_ok, fun x hx => (by cases hx), hid, hd⟩
theorem symP_ok {nm d : List Nat} {id : Nat} (h1 : 1 ≤ d.length) (h2 : d.length ≤ 256) : pkOk (symP nm d id) := .inr (.inr (.inr ⟨rfl, ⟨rfl, rfl, rfl⟩, rfl, rfl, rfl, h1, h2⟩))
theorem symP_q {nm d : List Nat} {id : Nat} (h2 : d.length ≤ 256) : tellQ (symP nm d id) ≤ 15000 := by
  show 100 + 0 + 44 * 0 + d.length ≤ _
  omega
theorem symP_bytes (nm : List Nat) (R : Rws) (m id : Nat) : pkBytes (symP nm (idSym R m id) id) = pktOf nm R m id := by
  unfold pkBytes pkBody pktOf symP
  simp

/-! What a row's type tells. -/

theorem OwnP.tag {B : Nat} {w : World} {v : Value} {F : List Pw} (h : OwnP B w v F) {b : Nat} (hb : v.ownBlock = some b) : ∃ cs fr, w.heap[b]? = some (.cells cs 75 fr) := by
  rcases h.2 with ⟨rfl, _⟩ | ⟨g, cap, cur, rfl, hB, hh, _⟩
  · simp [Value.ownBlock] at hb
  · have : g = b := by simpa [Value.ownBlock] using hb
    subst this
    exact ⟨_, _, hh⟩
theorem OwnP.ne {B : Nat} {w : World} {v : Value} {F : List Pw} (h : OwnP B w v F) {b : Nat} {cs : Array Value} {t : TypeId} {fr : Nat × Nat} (hh : w.heap[b]? = some (.cells cs t fr)) (ht : t ≠ 75) : ¬ v.ownBlock = some b := fun e => by
  obtain ⟨cs', fr', h2⟩ := h.tag e
  rw [hh] at h2
  injection h2 with h2
  injection h2 with _ h3 _
  exact ht h3
theorem Rw.fr {X : Nat → Prop} {w w' : World} {a : Option Addr} {c : Nat} {l : List Nat} (h : Rw 0 w a c l) (k : Fr X w w') (hx : ∀ b, X b → ¬ Byt w b) : Rw 0 w' a c l := by
  have hb : ∀ p, a = some p → l ≠ [] → w'.heap[p.block]? = w.heap[p.block]? := fun p hp hl => by
    rcases h.tag hl p hp with h0 | h0
    · omega
    · obtain ⟨cs, r, e⟩ := h0
      exact k.block _ (Array.getElem?_eq_some_iff.1 e).1 fun hX => hx _ hX ⟨cs, r, e⟩
  refine ⟨h.sl.of_block hb, fun hl p hp => .inr ?_⟩
  rcases h.tag hl p hp with h0 | h0
  · omega
  · obtain ⟨cs, r, e⟩ := h0
    exact ⟨cs, r, (hb p hp hl).trans e⟩
theorem Grid.fr0 {X : Nat → Prop} {w w' : World} {g : Nat} {ls : Rws} (h : Grid 0 w g ls) (k : Fr X w w') (hg : ¬ X g) (hx : ∀ b, X b → ¬ Byt w b) : Grid 0 w' g ls := by
  obtain ⟨vs, ⟨cs, e, r⟩, hv⟩ := h.row
  refine ⟨Nat.zero_le _, vs, ⟨cs, (k.block _ (Array.getElem?_eq_some_iff.1 e).1 hg).trans e, r⟩, fun i hi => ?_⟩
  obtain ⟨a, c, h1, h2⟩ := hv i hi
  exact ⟨a, c, h1, h2.fr k hx⟩

/-- A row of packets that grows, beside a box and a row of symbols. -/
structure MkV (w1 : World) (D : List Pk) (P : Nat → Pk) (ks : List Nat) (gq : Nat) (QA : Array Value) (gs : Nat) (SS : Rws) (k : Nat) (wr : World) (v : Value) (G : List Pw) : Prop where
  pst : PSt w1 wr v G
  eq : G.map (fun f => f.p) = D ++ (ks.take k).map P
  box : wr.heap[gq]? = some (.cells QA 40 (0, 0))
  grid : Grid 0 wr gs SS
theorem MkV.later {w1 : World} {D : List Pk} {P : Nat → Pk} {ks : List Nat} {gq : Nat} {QA : Array Value} {gs : Nat} {SS : Rws} {k : Nat} {wr w' : World} {v : Value} {G : List Pw} (h : MkV w1 D P ks gq QA gs SS k wr v G) (b : Below wr.heap.size wr w') : MkV w1 D P ks gq QA gs SS k w' v G :=
  ⟨h.pst.later b, h.eq, (b.block gq (Array.getElem?_eq_some_iff.1 h.box).1).trans h.box, h.grid.below b⟩
theorem MkV.ne_box {w1 : World} {D : List Pk} {P : Nat → Pk} {ks : List Nat} {gq : Nat} {QA : Array Value} {gs : Nat} {SS : Rws} {k : Nat} {wr : World} {v : Value} {G : List Pw} (h : MkV w1 D P ks gq QA gs SS k wr v G) : ¬ v.ownBlock = some gq := h.pst.own.ne h.box (by decide)
theorem MkV.ne_grid {w1 : World} {D : List Pk} {P : Nat → Pk} {ks : List Nat} {gq : Nat} {QA : Array Value} {gs : Nat} {SS : Rws} {k : Nat} {wr : World} {v : Value} {G : List Pw} (h : MkV w1 D P ks gq QA gs SS k wr v G) : ¬ v.ownBlock = some gs := by
  obtain ⟨vs, ⟨cs, e, r⟩, hv⟩ := h.grid.row
  exact h.pst.own.ne e (by decide)
theorem MkV.ne_byt {w1 : World} {D : List Pk} {P : Nat → Pk} {ks : List Nat} {gq : Nat} {QA : Array Value} {gs : Nat} {SS : Rws} {k : Nat} {wr : World} {v : Value} {G : List Pw} (h : MkV w1 D P ks gq QA gs SS k wr v G) {b : Nat} (hb : Byt wr b) : ¬ v.ownBlock = some b := by
  obtain ⟨cs, r, e⟩ := hb
  exact h.pst.own.ne e (by decide)
theorem MkV.push {w1 : World} {D : List Pk} {P : Nat → Pk} {ks : List Nat} {gq : Nat} {QA : Array Value} {gs : Nat} {SS : Rws} {k : Nat} {wr w' : World} {v v' : Value} {G : List Pw} (h : MkV w1 D P ks gq QA gs SS k wr v G) (hk : k < ks.length) {f : Pw} (hf : f.p = P ks[k])
    (hp : PkAt wr f.p f.sa f.sc f.da f.dc ∧ ApartP v f) (ho : OwnP w1.heap.size w' v' (G ++ [f])) (hg : wr.grownBy w' v.ownBlock) (e : v'.ownBlock = v.ownBlock ∨ v'.ownBlock = some wr.heap.size) : MkV w1 D P ks gq QA gs SS (k + 1) w' v' (G ++ [f]) := by
  have fr : Fr (fun b => v.ownBlock = some b) wr w' := Fr.of_grown hg fun b hb => hb
  refine ⟨h.pst.push (fun x hx => ?_) ho hg e, ?_, (fr.block gq (Array.getElem?_eq_some_iff.1 h.box).1 h.ne_box).trans h.box, h.grid.fr0 fr h.ne_grid fun b hb hB => h.ne_byt hB hb⟩
  · obtain rfl : x = f := by simpa using hx
    exact hp
  · rw [List.map_append, h.eq, List.take_succ_eq_append_getElem hk, List.map_append, List.append_assoc]
    simp [hf]
/-- The packet of the symbol that is next. -/
theorem MkV.sym {w1 : World} {D : List Pk} {P : Nat → Pk} {ks : List Nat} {gq : Nat} {QA : Array Value} {gs : Nat} {SS : Rws} {k : Nat} {wr : World} {v : Value} {G : List Pw} (h : MkV w1 D P ks gq QA gs SS k wr v G) {nm : List Nat} (h8 : nm.length = 8) (hn : IsByte nm) {id : Nat} (hid : id < 4294967296)
    {a : Option Addr} {c : Nat} {d : List Nat} (hr : Rw 0 wr a c d) : PkAt wr (symW nm d id a c).p (symW nm d id a c).sa (symW nm d id a c).sc (symW nm d id a c).da (symW nm d id a c).dc ∧ ApartP v (symW nm d id a c) :=
  ⟨⟨symP_in h8 hn hid hr.sl.byte, sms_none _, hr.sl⟩, fun e => absurd rfl e, fun e q hq hb => by
    rcases hr.tag e q hq with h0 | h0
    · omega
    · exact h.ne_byt h0 hb⟩

/-- A formed set's slices are no longer than they may be. -/
theorem Good.short {S : St} {k n : Nat} (g : Good S k n) : ∀ i, i < n → (S.slices.getD i zSm).n ≤ S.slice := by
  induction g with
  | zero => intro i hi; omega
  | @next k n g h ok ih =>
    intro i hi
    by_cases e : i < n
    · exact ih i e
    · have h1 := ok.cut (i - n) (by omega)
      rw [show n + (i - n) = i by omega] at h1
      rw [h1]
      unfold wantI
      omega
theorem goodB_of {S : St} {R : Rws} {m : Nat} (hf : FormedP S) (h : R.map smOf = S.slices) (hm : S.slice = (m : Int)) : goodB R m = true := by
  refine goodB_iff.2 fun x hx => ?_
  obtain ⟨i, hi, rfl⟩ := List.getElem_of_mem hx
  have h1 := hf.good.short i (by rw [← h, List.length_map]; exact hi)
  rw [← h] at h1
  have e : ((R.map smOf).getD i zSm) = smOf R[i] := by simp [List.getD, hi]
  rw [e, hm] at h1
  have h2 : (smOf R[i]).n = (R[i].length : Int) := rfl
  omega
theorem wrN_vol {G : List Pw} {S : St} {R : Rws} {ks : List Nat} {m : Nat} (hm : S.slice.toNat = m) (h : G.map (fun f => f.p) = dirS S ++ ks.map (fun id => symP (nameS S) (idSym R m id) id)) : wrN G = volS S R ks := by
  subst hm
  rw [wrN_pk h, List.map_append, List.flatten_append, dirS_bytes, List.map_map]
  have e : (List.map (pkBytes ∘ fun id => symP (nameS S) (idSym R S.slice.toNat id) id) ks) = ks.map (pktOf (nameS S) R S.slice.toNat) := List.map_congr_left fun id _ => symP_bytes _ _ _ _
  rw [e]
  rfl
end Go.Proofs.YtcopjbapglndgaaGreatDoor
end

section
namespace Go.Proofs.YtcopjbapglndgaaGreatDoor
open Go.ChangeShapes Go.WideShapes Go.ChangeAt Go.RowKit Go.Joins
set_option linter.unusedVariables false

set_option maxRecDepth 1000000 in
set_option maxHeartbeats 32000000 in
theorem vmake_any : VMakeC := by
  intro S fa fc sa sc ra rc R ka kc ks w hs hf hsn hR hR256 hR64 hk hm ht hF
  have mixed : Tryz.prog.follows .mixedOrders = true := by kernel_rfl
  obtain ⟨PQ, hPQ⟩ : ∃ PQ : Ending → World → Prop, PQ = VMakePost S R ks w := ⟨_, rfl⟩
  have HE1 : Hid (∀ w', Below w.heap.size w w' → R.map smOf ≠ S.slices → PQ (.returned (.tuple #[.slice none 0 0, .int .i64 1])) w') := fun w' h1 h2 => by rw [hPQ]; exact ⟨h1, .inl ⟨h2, rfl⟩⟩
  have HE5 : Hid (∀ w', Below w.heap.size w w' → R.map smOf = S.slices → (R.length = 0 ∨ 64 < ks.length) → PQ (.returned (.tuple #[.slice none 0 0, .int .i64 5])) w') := fun w' h1 h2 h3 => by rw [hPQ]; exact ⟨h1, .inr (.inl ⟨h2, h3, rfl⟩)⟩
  have HEK : Hid (∀ w' v, Below w.heap.size w w' → R.map smOf = S.slices → R.length ≠ 0 → ks.length ≤ 64 → (∃ p q, v = .slice p (volS S R ks).length q ∧ Sl w' p q (volS S R ks)) → PQ (.returned (.tuple #[v, .int .i64 0])) w') := fun w' v h1 h2 h3 h4 ⟨p, q, h5, h6⟩ => by rw [hPQ]; exact ⟨h1, .inr (.inr ⟨h2, h3, h4, p, q, by rw [h5], h6⟩)⟩
  rw [← hPQ]
  obtain ⟨arr, harr⟩ : ∃ arr, arr = rowArr 3 (setV S fa fc sa sc) := ⟨_, rfl⟩
  have HAR : Hid (arr.size = 3) := by show _ = _; rw [harr, rowArr_size]
  have hB0 : Below w.heap.size w (w.alloc (.cells arr 29)) := (Below.refl _ _).alloc (Nat.le_refl _) _
  have HB := Lib.hid hB0
  have HX1 : Hid ((w.alloc (.cells arr 29)).heap[w.heap.size]? = some (.cells arr 29 (0, 0))) := heap_alloc_last w _
  have hdi := directory_any S fa fc sa sc _ (hs.below hB0) (hm.below hB0) (ht.below hB0) hsn
  rw [← harr] at hdi
  have HDI := Lib.hid hdi
  have HT := Lib.hid ht
  have HFO := Lib.hid hf
  have HD := Lib.hid (dirIn_of hs hf)
  have HRS : Hid (∀ w', Below w.heap.size w w' → Rs w'.heap.size w' ra rc R) := fun w' h => (hR.keep (Nat.le_refl _) (Keep.of_below h)).raise h.size
  have HOW : Hid (∀ w', Below w.heap.size w w' → Calls Tryz.prog 27 #[.slice sa S.slices.length sc, .slice ra R.length rc] w' (OwPost R S.slices w')) := fun w' h => own_any sa sc S.slices ra rc R w' (hs.slices.below h) (HRS.out w' h) hR256 (ht.below h) (hF.below h)
  obtain ⟨m, hmS⟩ : ∃ m : Nat, S.slice = (m : Int) := ⟨S.slice.toNat, by have := hf.s1; omega⟩
  have hm1 : 1 ≤ m := by have := hf.s1; omega
  have hm2 : m ≤ 256 := by have := hf.s2; omega
  have HMT : Hid (S.slice.toNat = m) := by show _ = _; omega
  have HSO : Hid (∀ w', R.length = 0 → Calls Tryz.prog 28 #[.slice ra R.length rc, .int .i64 (m : Int), .slice ka ks.length kc] w' fun e w'' => e = .returned (.tuple #[.slice none 0 0, .int .i64 5]) ∧ w' = w'') := fun w' h0 => esymbols_out ra rc R.length (by omega) (m : Int) ka ks.length kc 5 (.inr ⟨by omega, by omega, .inl (by omega), rfl⟩) w'
  have HSY : Hid (∀ w', Below w.heap.size w w' → R.length ≠ 0 → Calls Tryz.prog 28 #[.slice ra R.length rc, .int .i64 (m : Int), .slice ka ks.length kc] w' (ESymsPostB R m ks w')) := fun w' h h0 => esymbols_byt ra rc R m ka kc ks w' (HRS.out w' h) (hk.below h) (by omega) hR64 hm1 hm2
  have HGB : Hid (R.map smOf = S.slices → goodB R m = true) := fun h => goodB_of hf h hmS
  have HRB := Lib.hid hR.byte
  have HK := Lib.hid hk
  have hkl := hk.lt
  have hrl := hR.lt
  have hsl := hs.slices.lt
  have HC0 : Hid (setV S fa fc sa sc 0 = .int .i64 (m : Int)) := by show _ = _; rw [← hmS]; rfl
  have HAE := Lib.hid harr
  rw [← harr]
  clear harr hB0 hs hPQ hf hdi hm ht hR hk hF hmS hR256
  go_enter Tryz.func10, Tryz.ntmps10
  go_upto_region 1 with fail
  obtain ⟨b, hb⟩ : ∃ b, b = w.heap.size := ⟨_, rfl⟩
  have hbw : w.heap.size ≤ b := by omega
  rw [← hb] at HX1 ⊢
  generalize w.alloc (.cells arr 29) = w1 at *
  clear hb
  go_upto_region 4 with (first
    | (refine wpList_load_row rfl 29 _ rfl b rfl 29 arr (0, 0) _ HX1.out Tryz.underlying29 rfl (by rw [HAR.out]; kernel_rfl) ?_)
    | (go_at_call 26; (with_reducible refine HDI.out.mono ?_); rintro e w2 ⟨h2, _⟩; obtain ⟨v, F, rfl, hp, hm⟩ := h2 HFO.out; have HP := Lib.hid hp; have HM := Lib.hid hm; clear h2 hp hm HDI))
  obtain ⟨a, c, hv, _, _⟩ := HP.out.own.slice
  subst hv
  have hFl : F.length = 2 * S.files.length + 1 := by
    have := congrArg List.length HM.out
    rw [dirS_len, List.length_map] at this
    exact this
  have HFL : Hid (F.length = 2 * S.files.length + 1) := hFl
  have hFpos : 0 < F.length := by omega
  have hFlt := HP.out.sl.lt
  clear hFl
  have HB2 : Hid (Below w.heap.size w w2) := HB.out.trans (HP.out.below.mono HB.out.size)
  have hbl : b < w2.heap.size := Nat.lt_of_lt_of_le (Array.getElem?_eq_some_iff.1 HX1.out).1 HP.out.below.size
  have HX2 : Hid (w2.heap[b]? = some (.cells arr 29 (0, 0))) := (HP.out.below.block b (Array.getElem?_eq_some_iff.1 HX1.out).1).trans HX1.out
  have HCS : Hid (∀ w', Below w2.heap.size w2 w' → w'.cell? ⟨b, 0, none⟩ = some (.int .i64 (m : Int)) ∧ w'.cell? ⟨b, 2, none⟩ = some (.slice sa S.slices.length sc)) := fun w' h => by
    have h1 := (h.block b hbl).trans HX2.out
    rw [HAE.out] at h1
    exact ⟨by rw [cell_of_block h1, ← HC0.out]; simp [rowArr], by rw [cell_of_block h1]; simp [rowArr]; rfl⟩
  obtain ⟨_, c2⟩ := HCS.out w2 (Below.refl _ _)
  have how := HOW.out w2 HB2.out
  clear HOW
  by_cases hq : R.map smOf = S.slices
  case neg =>
    have HOF : Hid (Calls Tryz.prog 27 #[.slice sa S.slices.length sc, .slice ra R.length rc] w2 fun e w' => e = .returned (.bool false) ∧ Below w2.heap.size w2 w') := how.mono fun e w' ⟨B, he, hi, hb⟩ => ⟨by rw [he, Bool.eq_false_iff.2 fun h => hq (hi.1 h)], hb⟩
    have HQ := Lib.hid hq
    clear how hq
    go_wp2_with (go_at_call 27; (with_reducible refine HOF.out.mono ?_); rintro e w3 ⟨rfl, b3⟩; have HB3 := Lib.hid b3; clear b3 HOF)
    exact HE1.out _ (HB2.out.trans (HB3.out.mono HB2.out.size)) HQ.out
  have HOT : Hid (Calls Tryz.prog 27 #[.slice sa S.slices.length sc, .slice ra R.length rc] w2 fun e w' => e = .returned (.bool true) ∧ Below w2.heap.size w2 w') := how.mono fun e w' ⟨B, he, hi, hb⟩ => ⟨by rw [he, hi.2 hq], hb⟩
  have HQ := Lib.hid hq
  have HG := Lib.hid (HGB.out hq)
  clear how hq HGB
  go_upto_region 6 with (go_at_call 27; (with_reducible refine HOT.out.mono ?_); rintro e w3 ⟨rfl, b3⟩; have HB23 := Lib.hid b3; clear b3 HOT)
  have HB3 : Hid (Below w.heap.size w w3) := HB2.out.trans (HB23.out.mono HB2.out.size)
  clear c2
  obtain ⟨c0, _⟩ := HCS.out w3 HB23.out
  by_cases hz : R.length = 0
  · have HSO3 := Lib.hid (HSO.out w3 hz)
    have HZ := Lib.hid hz
    clear hz HSY HSO
    go_wp2_with (go_at_call 28; (with_reducible refine HSO3.out.mono ?_); rintro e w4 ⟨rfl, rfl⟩)
    exact HE5.out _ HB3.out HQ.out (.inl HZ.out)
  have HSY3 := Lib.hid (HSY.out w3 HB3.out hz)
  have HNZ := Lib.hid hz
  clear hz HSY HSO
  by_cases h64 : 64 < ks.length
  · have HS5 : Hid (Calls Tryz.prog 28 #[.slice ra R.length rc, .int .i64 (m : Int), .slice ka ks.length kc] w3 fun e w'' => e = .returned (.tuple #[.slice none 0 0, .int .i64 5]) ∧ Below w3.heap.size w3 w'') := HSY3.out.mono fun e w'' ⟨hb, h⟩ => by
      rcases h with ⟨_, h, _⟩ | ⟨_, _, h⟩ | ⟨h, _⟩
      · omega
      · exact ⟨h, hb⟩
      · rw [HG.out] at h; cases h
    have H64 := Lib.hid h64
    clear h64 HSY3
    go_wp2_with (go_at_call 28; (with_reducible refine HS5.out.mono ?_); rintro e w4 ⟨rfl, b4⟩; have HB4 := Lib.hid b4; clear b4 HS5)
    exact HE5.out _ (HB3.out.trans (HB4.out.mono HB3.out.size)) HQ.out (.inr H64.out)
  have hks : ks.length ≤ 64 := by omega
  have HSK : Hid (Calls Tryz.prog 28 #[.slice ra R.length rc, .int .i64 (m : Int), .slice ka ks.length kc] w3 fun e w'' => ∃ g, e = .returned (.tuple #[.slice (some ⟨g, 0, none⟩) ks.length ks.length, .int .i64 0]) ∧ Grid 0 w'' g (ks.map (idSym R m)) ∧ Below w3.heap.size w3 w'') := HSY3.out.mono fun e w'' ⟨hb, h⟩ => by
    rcases h with ⟨_, _, g, h, h2⟩ | ⟨_, h, _⟩ | ⟨h, _⟩
    · exact ⟨g, h, h2, hb⟩
    · omega
    · rw [HG.out] at h; cases h
  clear h64 HSY3
  go_upto_region 9 with (go_at_call 28; (with_reducible refine HSK.out.mono ?_); rintro e w4 ⟨gs, rfl, hgr, b4⟩; have HGR := Lib.hid hgr; have HB34 := Lib.hid b4; clear b4 hgr HSK)
  clear c0
  have HB24 : Hid (Below w2.heap.size w2 w4) := HB23.out.trans (HB34.out.mono HB23.out.size)
  have HP4 := Lib.hid (HP.out.later HB24.out)
  obtain ⟨pb, off, rfl, hpl, hx⟩ := pks_one HP4.out.sl (i := 0) hFpos
  have hset : F[0].p.set = nameS S := dirS_set (by rw [← HM.out]; exact List.mem_map_of_mem (List.getElem_mem hFpos))
  obtain ⟨QA, hQA⟩ : ∃ QA, QA = rowArr 8 (vOf (nameS S)) := ⟨_, rfl⟩
  have VQ : Hid (rowArr 8 (vOf (nameS S)) = QA) := hQA.symm
  have HQs : Hid (QA.size = 8) := by show _ = _; rw [hQA, rowArr_size]
  have HQ1 : Hid (QA.all (·.oneCell') = true) := by show _ = _; rw [hQA]; exact oneCell_v _ 8
  have HX8 : Hid (∀ j, j < 8 → w4.cell? ⟨pb, off + j, none⟩ = some (vOf (nameS S) j)) := fun j hj => by
    have h1 := hx j (by omega)
    rw [show off + 0 * 51 + j = off + j by omega] at h1
    rw [h1, ← hset]
    exact congrArg some (pkV_set _ _ _ _ _ hj)
  have HALL : Hid (∀ c : Array Value, (w4.alloc (.cells c 40)).heap[w4.heap.size]? = some (.cells c 40 (0, 0))) := fun c => heap_alloc_last w4 _
  have HALB : Hid (∀ c : Array Value, Below w4.heap.size w4 (w4.alloc (.cells c 40))) := fun c => (Below.refl _ _).alloc (Nat.le_refl _) _
  have hF0 : (0 : Int) < (F.length : Int) := by omega
  clear hx hset hQA
  go_upto_region 10 with (first
    | (refine wpList_load_v (by rfl) 40 _ rfl pb off 8 _ QA VQ.out rfl _ HX8.out Tryz.underlying40 rfl (by kernel_rfl) ?_)
    | (refine wpList_store_arr rfl 40 _ _ rfl w4.heap.size QA rfl rfl 40 _ (HALL.out _) (by rw [HQs.out]; kernel_rfl) (by rw [HQs.out]; rfl) HQ1.out ?_; intro w5 HC5 hf5; have HB45 : Hid (Below w4.heap.size w4 w5) := (HALB.out _).trans (hf5.out.below (HALB.out _).size (fun k hk e => by omega)); clear hf5 HALL HALB))
  obtain ⟨gq, hgq⟩ : ∃ gq, gq = w4.heap.size := ⟨_, rfl⟩
  rw [← hgq] at HC5 ⊢
  have HM5 : Hid (MkV w1 (dirS S) (fun id => symP (nameS S) (idSym R m id) id) ks gq QA gs (ks.map (idSym R m)) 0 w5 (.slice (some ⟨pb, off, none⟩) F.length c) F) := ⟨HP4.out.later HB45.out, by rw [HM.out]; simp, HC5.out, HGR.out.below HB45.out⟩
  have N8 : Hid ((nameS S).length = 8) := nameOf_len _
  have NB : Hid (IsByte (nameS S)) := nameOf_byte _
  clear hgq HX8 HP4 HGR HC5 hpl
  obtain ⟨v0, hv0⟩ : ∃ v0, v0 = Value.slice (some ⟨pb, off, none⟩) F.length c := ⟨_, rfl⟩
  rw [← hv0] at HM5 ⊢
  clear hv0 HP
  go_wp2_with fail
  go_loopw [8, 44] (fun t i wr => ∃ (k : Nat) (v : Value) (G : List Pw), k ≤ ks.length ∧ t = v ∧ i = .int .i64 k ∧ Hid (MkV w1 (dirS S) (fun id => symP (nameS S) (idSym R m id) id) ks gq QA gs (ks.map (idSym R m)) k wr v G)) (fun _ i _ => ks.length - (intOf i).toNat)
  case atStart => exact ⟨0, v0, F, by omega, rfl, rfl, HM5⟩
  case round =>
    obtain ⟨k, v, G, hk, rfl, rfl, HV⟩ := hrel
    clear HM5
    have HBr : Hid (Below w.heap.size w wr) := HB.out.trans (HV.out.pst.below.mono HB.out.size)
    by_cases hlt : k < ks.length
    · obtain ⟨kb, ko, rfl, hkb, hkc⟩ := (HK.out.below HBr.out).some hlt
      have hid := HK.out.rng _ (List.getElem_mem hlt)
      have hGl : G.length ≤ 100 := by
        have h1 := congrArg List.length HV.out.eq
        rw [List.length_append, dirS_len, List.length_map, List.length_map, List.length_take] at h1
        have h2 := HFO.out.f2
        omega
      have hkS : k < (ks.map (idSym R m)).length := by rw [List.length_map]; exact hlt
      have HSk : Hid ((ks.map (idSym R m))[k] = idSym R m ks[k]) := by show _ = _; rw [List.getElem_map]
      have HPu : Hid (∀ f : Pw, f.p = symP (nameS S) (idSym R m ks[k]) ks[k] → ∀ wd v' w', MkV w1 (dirS S) (fun id => symP (nameS S) (idSym R m id) id) ks gq QA gs (ks.map (idSym R m)) k wd u8 G → PkAt wd f.p f.sa f.sc f.da f.dc ∧ ApartP u8 f → OwnP w1.heap.size w' v' (G ++ [f]) → wd.grownBy w' u8.ownBlock → (v'.ownBlock = u8.ownBlock ∨ v'.ownBlock = some wd.heap.size) → MkV w1 (dirS S) (fun id => symP (nameS S) (idSym R m id) id) ks gq QA gs (ks.map (idSym R m)) (k + 1) w' v' (G ++ [f])) := fun f hf wd v' w' h hp ho hg e => h.push hlt hf hp ho hg e
      have HDL : Hid ((idSym R m ks[k]).length = m) := (idSym_ok m _ HRB.out).1
      obtain ⟨id, hide⟩ : ∃ id, id = ks[k] := ⟨_, rfl⟩
      rw [← hide] at hkc hid HSk HPu HDL
      have HID := Lib.hid hid
      clear hide
      go_upto_region 13 with fail
      obtain ⟨wd, hwd⟩ : ∃ wd, wd = wr.drew := ⟨_, rfl⟩
      have HVD : Hid (MkV w1 (dirS S) (fun id => symP (nameS S) (idSym R m id) id) ks gq QA gs (ks.map (idSym R m)) k wd u8 G) := by rw [hwd]; exact HV.out.later (Below.refl _ _).drew
      obtain ⟨da, dc, hdc, hrw⟩ := HVD.out.grid.cell hkS
      rw [HSk.out] at hdc hrw
      rw [HDL.out] at hdc
      have hgsl : gs < wd.heap.size := HVD.out.grid.lt
      have hgql : gq < wd.heap.size := (Array.getElem?_eq_some_iff.1 HVD.out.box).1
      have k55 : ∀ u : KeepW wd (fun j => u8.ownBlock = some j), u.v.cell? ⟨gs, k, none⟩ = some (.slice da m dc) := fun u => (u.cell hgsl HVD.out.ne_grid).trans hdc
      have K50 : Hid (∀ u : KeepW wd (fun j => u8.ownBlock = some j), ∀ j, j < 8 → u.v.cell? ⟨gq, 0 + j, none⟩ = some (vOf (nameS S) j)) := fun u j hj => by
        rw [u.cell hgql HVD.out.ne_box, cell_of_block HVD.out.box, Nat.zero_add, ← VQ.out]
        simp [rowArr, hj]
      have HSY := Lib.hid (HVD.out.sym N8.out NB.out HID.out hrw)
      obtain ⟨f, hfe⟩ : ∃ f, f = symW (nameS S) (idSym R m id) id da dc := ⟨_, rfl⟩
      have HFP : Hid (f.p = symP (nameS S) (idSym R m id) id) := by show _ = _; rw [hfe]; rfl
      have hbu := built_sym2 (nameS S) (idSym R m id) id da dc
      rw [HDL.out, VQ.out, ← hfe] at hbu
      rw [← hfe] at HSY
      obtain ⟨AQ, hAQ⟩ : ∃ AQ, AQ = rowArr 51 (pwV f) := ⟨_, rfl⟩
      rw [← hAQ] at hbu
      have HAQ := Lib.hid hAQ
      have HBU := Lib.hid hbu
      have HGL := Lib.hid hGl
      clear hAQ hbu hfe hrw hdc hkc hgsl hgql hkS hGl HV HSk HDL hid
      refine growK_begin 10 (fun w' => ∃ u : KeepW wd (fun j => u8.ownBlock = some j), w' = u.v) (by kernel_rfl) ?_
      rw [← hwd]
      clear hwd
      refine growK_take (by kernel_rfl) [0, 1, 2, 3, 4, 5, 6] 4 _ _ (by kernel_rfl) _ (keep_class (Fr.refl _ _)) ?_
      simp only [opsAt, List.getElem?_toArray, List.getElem?_cons_succ, List.getElem?_cons_zero]
      repeat (first
        | (refine wpQuiet_load_v (by rfl) 40 _ rfl gq 0 8 _ QA VQ.out rfl _ (fun w hw j hj => by obtain ⟨u, rfl⟩ := hw; exact K50.out u j hj) Tryz.underlying40 rfl (by kernel_rfl) ?_)
        | go_big_quiet_step (fail) | quiet_step (fail))
      refine wpQuiet_nil ?_
      clear k55 K50
      refine growK_build (by kernel_rfl) 7 75 _ AQ rfl rfl (by decide) (by kernel_rfl) (by kernel_rfl) (by kernel_rfl) (by kernel_rfl) (by kernel_rfl) (by rfl) (by go_simp; exact HBU.out) _ (keep_class (Fr.refl _ _)) ?_
      refine growK_one 8 (by kernel_rfl) (fun K hK => ?_)
      simp only [stepOf, List.getElem?_toArray, List.getElem?_cons_succ, List.getElem?_cons_zero]
      rw [if_pos (by rfl)]
      refine op_oneP _ rfl f (congrArg Value.agg HAQ.out) ?_
      have HB6 : Hid (Below wd.heap.size wd (wd.alloc (.cells (rowArr 51 (pwV f)) 75))) := (Below.refl _ _).alloc (Nat.le_refl _) _
      have HC6 : Hid ((wd.alloc (.cells (rowArr 51 (pwV f)) 75)).heap[wd.heap.size]? = some (.cells (rowArr 51 (pwV f)) 75 (0, 0))) := heap_alloc_last wd _
      generalize wd.alloc (.cells (rowArr 51 (pwV f)) 75) = w6 at *
      refine hK.out _ _ (keep_class (Fr.of_below HB6.out)) ?_
      clear hK K
      have HV6 := Lib.hid (HVD.out.later HB6.out)
      have HSY6 : Hid (PkAt w6 f.p f.sa f.sc f.da f.dc ∧ ApartP u8 f) := ⟨HSY.out.1.below HB6.out, HSY.out.2⟩
      have HOC := Lib.hid (one_cells HC6.out)
      have hsz : w1.heap.size ≤ w6.heap.size := HV6.out.pst.below.size
      refine growK_one 9 (by kernel_rfl) (fun K hK => ?_)
      simp only [stepOf, List.getElem?_toArray, List.getElem?_cons_succ, List.getElem?_cons_zero]
      rw [if_pos (by rfl)]
      refine op_push_p _ (.tmp 49) (.tmp 57) rfl w1.heap.size u8 G rfl HV6.out.pst.own wd.heap.size 0 1 1 rfl [f] rfl HOC.out hsz (by have := HGL.out; omega) (by omega) ?_
      intro v7 w7 o7 g7 e7
      have HV7 := Lib.hid (HPu.out f HFP.out w6 v7 w7 HV6.out HSY6.out o7.out g7.out e7.out)
      have F7 : Hid (Fr (fun j => u8.ownBlock = some j) wd w7) := (Fr.of_below HB6.out).trans (Fr.of_grown g7.out fun b e => e)
      refine hK.out _ _ (keep_class F7.out) ?_
      clear hK K o7 g7 e7 HV6 HSY6 HOC HC6 HB6 HVD HSY HBU HAQ HPu
      refine growK_last (by kernel_rfl) (by kernel_rfl) (fun K hK => ?_)
      simp only [stepOf, List.getElem?_toArray, List.getElem?_cons_succ, List.getElem?_cons_zero]
      go_simp
      refine hK.out _ _ ?_
      clear hK K F7 hsz
      go_wp2_with fail
      go_roundw
      case rel => exact ⟨k + 1, v7, G ++ [f], by omega, rfl, by go_num, HV7⟩
      case measure => simp [intOf]; omega
    · obtain rfl : k = ks.length := by omega
      obtain ⟨ga, gc, hgv, _, _⟩ := HV.out.pst.own.slice
      subst hgv
      have heq := HV.out.eq
      rw [List.take_length] at heq
      have hGl : G.length ≤ 90 := by
        have h1 := congrArg List.length heq
        rw [List.length_append, dirS_len, List.length_map, List.length_map] at h1
        have h2 := HFO.out.f2
        omega
      have hsy : ∀ id, (idSym R m id).length = m := fun id => (idSym_ok m id HRB.out).1
      have hok : ∀ f ∈ G, pkOk f.p ∧ tellQ f.p ≤ 15000 ∧ (pkBytes f.p).length ≤ 10000 := fun f hf => by
        have h1 : f.p ∈ dirS S ++ ks.map (fun id => symP (nameS S) (idSym R m id) id) := by rw [← heq]; exact List.mem_map_of_mem hf
        rcases List.mem_append.1 h1 with h2 | h2
        · exact dirS_ok HFO.out HD.out h2
        · obtain ⟨id, hid, e⟩ := List.mem_map.1 h2
          have h3 := hsy id
          rw [← e]
          refine ⟨symP_ok (by omega) (by omega), symP_q (by omega), ?_⟩
          rw [symP_bytes]
          have := pktOf_len N8.out (R := R) HRB.out hm2 id
          omega
      have hwr := written_any ga gc G wr HV.out.pst.sl hok hGl (HT.out.below HBr.out)
      rw [wrN_vol HMT.out heq] at hwr
      have HWR := Lib.hid hwr
      have hvb : IsByte (volS S R ks) := fun x hx => by
        unfold volS volTo at hx
        rcases List.mem_append.1 hx with h1 | h1
        · exact idxS_byte S HFO.out HD.out x h1
        · exact pkts_byte NB.out HRB.out ks x h1
      have HVB := Lib.hid hvb
      clear hwr heq hsy hok hGl HV hvb
      go_wp2_with (go_at_call 29; (with_reducible refine HWR.out.mono ?_); rintro e w9 ⟨v9, rfl, ha9⟩; have HA9 := Lib.hid ha9; clear ha9 HWR)
      obtain ⟨p, q, hv9, hs9, _⟩ := HA9.out.own.sl HVB.out
      exact HEK.out _ _ (HBr.out.trans (HA9.out.below.mono HBr.out.size)) HQ.out HNZ.out hks ⟨p, q, hv9, hs9⟩
end Go.Proofs.YtcopjbapglndgaaGreatDoor
end

section
namespace Go.Proofs.YtcopjbapglndgaaGreatDoor
open Go.ChangeShapes Go.WideShapes Go.ChangeAt Go.RowKit Go.Joins
set_option linter.unusedVariables false

theorem setArr_one17 (S : St) (fa : Option Addr) (fc : Nat) (sa : Option Addr) (sc : Nat) : (rowArr 3 (setV S fa fc sa sc)).all (·.oneCell') = true := by
  simp [rowArr, List.range_succ, setV, Value.oneCell']
theorem OwnB.lt17 {w : World} {v : Value} {l : List Nat} (h : OwnB w v l) : ∀ b, v.ownBlock = some b → b < w.heap.size := fun b hb => by
  rcases h.2 with ⟨h0, _⟩ | ⟨g, cap, cur, e, h1, hg, r⟩
  · rw [h0] at hb
    simp [Value.ownBlock] at hb
  · rw [e] at hb
    have : some g = some b := hb
    cases this
    exact (Array.getElem?_eq_some_iff.1 hg).1
/-- Bytes gathered by append, and a box beside them. -/
structure AccB (w0 : World) (g : Nat) (QA : Array Value) (w : World) (v : Value) (l : List Nat) : Prop where
  acc : Acc w0 w v l
  ne : ¬ v.ownBlock = some g
  box : w.heap[g]? = some (.cells QA 40 (0, 0))
theorem AccB.later {w0 w w' : World} {g : Nat} {QA : Array Value} {v : Value} {l : List Nat} (h : AccB w0 g QA w v l) (k : Below w.heap.size w w') : AccB w0 g QA w' v l :=
  ⟨h.acc.later k, h.ne, (k.block g (Array.getElem?_eq_some_iff.1 h.box).1).trans h.box⟩
theorem AccB.add {w0 w w' : World} {g : Nat} {QA : Array Value} {v v' : Value} {l m : List Nat} (h : AccB w0 g QA w v l) (h1 : OwnB w' v' (l ++ m)) (h2 : w.grownBy w' v.ownBlock) (h3 : v'.ownBlock = v.ownBlock ∨ v'.ownBlock = some w.heap.size) : AccB w0 g QA w' v' (l ++ m) := by
  have hl := (Array.getElem?_eq_some_iff.1 h.box).1
  have hf : Fr (fun b => v.ownBlock = some b) w w' := Fr.of_grown h2 fun b e => e
  refine ⟨h.acc.add h1 h2 h3, fun e => ?_, (hf.block g hl h.ne).trans h.box⟩
  rcases h3 with h4 | h4
  · exact h.ne (by rw [← h4]; exact e)
  · rw [h4] at e
    cases e
    exact Nat.lt_irrefl _ hl
end Go.Proofs.YtcopjbapglndgaaGreatDoor
end

section
namespace Go.Proofs.YtcopjbapglndgaaGreatDoor
open Go.ChangeShapes Go.WideShapes Go.ChangeAt Go.RowKit Go.Joins
set_option linter.unusedVariables false

def u32V (c : Nat) : Value := .int .u32 (c : Int)
def OwnU (w : World) (v : Value) (l : List Nat) : Prop := w.ownsRow 0 44 1 v l.length (l.map u32V)
theorem info32C : (Tryz.prog.info? 44).map (fun i => (i.zero, i.size, i.bytes)) = some (some (.int .u32 0), 1, 4) := by kernel_rfl
theorem run_addU (w : World) (ty : TypeId) {v : Value} {l : List Nat} (ho : OwnU w v l) (ga : Option Addr) (gc : Nat) (m : List Nat) (hs : Us w ga gc m) (hn : l.length + m.length ≤ 1000000) :
    ∃ v' w', (Builtin.append_ #[23, 23] ty #[v, .slice ga m.length gc]).run Tryz.prog w = .ok v' w' ∧ OwnU w' v' (l ++ m) ∧ w.grownBy w' v.ownBlock ∧ (v'.ownBlock = v.ownBlock ∨ v'.ownBlock = some w.heap.size) := by
  obtain ⟨i0, hi, hz0, hz1, hz2⟩ := info_parts info32C
  by_cases hga : ga = none
  · subst hga
    obtain ⟨rfl, rfl⟩ := hs.none rfl
    refine ⟨v, w, ?_, by rw [List.append_nil]; exact ho, ⟨rfl, rfl, rfl, Nat.le_refl _, fun _ _ _ => rfl⟩, .inl rfl⟩
    rcases ho.2 with ⟨rfl, _⟩ | ⟨gg, cap, cur, rfl, -, -, hcap, -, -, -⟩
    · simp [Builtin.append_, run_underlying Tryz.underlying23, sizeOf, typeInfo, hi, Builtin.lenOf, Builtin.firstCells]
    · simp [Builtin.append_, run_underlying Tryz.underlying23, sizeOf, typeInfo, hi, Builtin.lenOf, Builtin.firstCells, storeCells, hcap]
  · obtain ⟨ad, rfl⟩ := Option.ne_none_iff_exists'.1 hga
    have hnews : ∀ j u, (m.map u32V)[j]? = some u → w.cell? (ad.add j) = some u := fun j u hj => by
      rw [List.getElem?_map] at hj
      obtain ⟨x, hx, rfl⟩ := Option.map_eq_some_iff.1 hj
      obtain ⟨hjl, rfl⟩ := List.getElem?_eq_some_iff.1 hx
      obtain ⟨b, off, e, _, this⟩ := hs.some (k := j) hjl
      cases e
      by_cases j0 : j = 0
      · subst j0; simpa [Addr.add, u32V] using this
      · simpa [Addr.add, j0, u32V] using this
    obtain ⟨v', w', hr, h2, h3, h4, h5⟩ := run_append_own_at (P := Tryz.prog) w 0 23 ty 44 i0 (.int .u32 0) 1 4 Tryz.underlying23 hi hz0 hz1 hz2 rfl (by decide) v l.length (l.map u32V) ho ad m.length gc (m.map u32V) (by simp) hnews (fun u hu => by obtain ⟨n, _, rfl⟩ := List.mem_map.1 hu; rfl) (by unfold maxLen; omega) (by omega) (Nat.zero_le _)
    refine ⟨v', w', hr, ?_, h3, h5⟩
    unfold OwnU
    rw [List.length_append, List.map_append]
    exact h2
theorem wp_addU {o : Oper} {a : Act} {K : Act → World → Prop} {Q : Exit → Act → World → Prop} (w : World) (s x : Operand)
    (ho : o.op = .call { callee := .builtin .append, args := #[s, x], argTypes := #[23, 23] })
    (v : Value) (l : List Nat) (hsv : a.eval s = v) (hown : OwnU w v l) (ga : Option Addr) (gc q : Nat) (m : List Nat) (hxv : a.eval x = .slice ga q gc) (hq : m.length = q) (hs : Us w ga gc m) (hn : l.length + m.length ≤ 1000000)
    (h : ∀ v' w', Hid (OwnU w' v' (l ++ m)) → Hid (w.grownBy w' v.ownBlock) → Hid (v'.ownBlock = v.ownBlock ∨ v'.ownBlock = some w.heap.size) → K (a.put o.dst v') w') : o.wp Tryz.prog a w K Q := by
  subst hq
  obtain ⟨v', w', hr, h2, h3, h4⟩ := run_addU w o.type hown ga gc m hs hn
  unfold Oper.wp execOp
  simp only [ho, resolve, invoke, builtin, Sem.run_bind, Sem.run_pure, Result.andThen_ok, List.map_toArray, List.map_cons, List.map_nil, hsv, hxv, hr]
  exact h v' w' h2 h3 h4
theorem op_emptyU {o : Oper} {a : Act} {w : World} {K : Act → World → Prop} {Q : Exit → Act → World → Prop} (ho : o.op = .buildSlice 23 0 #[])
    (h : K (a.put o.dst (.slice (some ⟨w.heap.size, 0, none⟩) 0 0)) (w.alloc (.cells #[] 44))) : o.wp Tryz.prog a w K Q := by
  obtain ⟨i0, hi, hz0, hz1, hz2⟩ := info_parts info32C
  have hr : (Instr.buildSlice 23 0 #[]).run Tryz.prog w = .ok (.slice (some ⟨w.heap.size, 0, none⟩) 0 0) (w.alloc (.cells #[] 44)) := by
    simp [Instr.buildSlice, run_underlying Tryz.underlying23, sizeOf, typeInfo, hi, newRow, Instr.fill]
    rw [show Array.map (fun x => (default : Value)) (Array.range 0) = #[] from Array.eq_empty_of_size_eq_zero (by simp)]
  unfold Oper.wp execOp
  simp only [ho, Sem.run_bind, List.map_toArray, List.map_nil, hr, Result.andThen_ok]
  exact h
theorem OwnU.empty (w : World) : OwnU (w.alloc (.cells #[] 44)) (.slice (some ⟨w.heap.size, 0, none⟩) 0 0) [] :=
  ⟨rfl, .inr ⟨w.heap.size, 0, #[], rfl, Nat.zero_le _, heap_alloc_last w _, Nat.le_refl _, by unfold maxLen; omega, rfl, rfl⟩⟩
theorem OwnU.us {w : World} {v : Value} {l : List Nat} (h : OwnU w v l) (hr : ∀ x ∈ l, x < 4294967296) : ∃ a c, v = .slice a l.length c ∧ Us w a c l := by
  rcases h.2 with ⟨rfl, h0⟩ | ⟨g, cap, cur, rfl, _, hg, h1, h2, h3, h4⟩
  · exact ⟨none, 0, by rw [h0], by
      have : l = [] := List.eq_nil_of_length_eq_zero h0
      subst this
      exact ⟨by simp, by simp, by unfold maxLen; omega, fun _ => ⟨rfl, rfl⟩, .inl rfl⟩⟩
  · refine ⟨_, cap, rfl, hr, h1, h2, fun e => (by cases e), .inr ⟨g, 0, rfl, (Array.getElem?_eq_some_iff.1 hg).1, fun i hi => ?_⟩⟩
    rw [cell_of_block hg, Nat.zero_add]
    rw [Nat.mul_one] at h4
    have e1 : (cur.toList.take l.length)[i]? = (l.map u32V)[i]? := by rw [h4]
    rw [List.getElem?_take, if_pos hi, List.getElem?_map, List.getElem?_eq_getElem hi] at e1
    simpa [u32V] using e1
end Go.Proofs.YtcopjbapglndgaaGreatDoor
end

section
namespace Go.Proofs.YtcopjbapglndgaaGreatDoor
open Go.ChangeShapes Go.WideShapes Go.ChangeAt Go.RowKit Go.Joins
set_option linter.unusedVariables false

theorem strOf_app (l m : List Nat) : strOf l ++ strOf m = strOf (l ++ m) := by
  have h : ∀ x y : ByteArray, x.data.toList = y.data.toList → x = y := fun x y h => by
    cases x; cases y
    congr 1
    exact Array.ext' h
  apply h
  rw [ByteArray.data_append, Array.toList_append, strOf_data, strOf_data, strOf_data, List.map_append]
theorem src_one {w : World} {a : Option Addr} {c : Nat} {R : List (List Nat)} (h : SrcAt w a c R) {i : Nat} (hi : i < R.length) : ∃ g p q, a = some ⟨g, 0, none⟩ ∧ g < w.heap.size ∧ w.cell? ⟨g, i, none⟩ = some (.slice p R[i].length q) ∧ Sl w p q R[i] := by
  rcases h.here with rfl | ⟨g, e, hg, hc⟩
  · simp at hi
  · obtain ⟨p, q, h1, h2⟩ := hc i hi
    exact ⟨g, p, q, e, hg, h1, h2⟩
theorem setArr_one16 (S : St) (fa : Option Addr) (fc : Nat) (sa : Option Addr) (sc : Nat) : (rowArr 3 (setV S fa fc sa sc)).all (·.oneCell') = true := by
  simp [rowArr, List.range_succ, setV, Value.oneCell']
end Go.Proofs.YtcopjbapglndgaaGreatDoor
end

section
namespace Go.Proofs.YtcopjbapglndgaaGreatDoor
open Go.ChangeShapes Go.WideShapes Go.ChangeAt Go.RowKit
set_option linter.unusedVariables false

theorem ownD : ownKnob Tryz.prog.godebug = none := by kernel_rfl
theorem laidOutD : laidOutB Tryz.prog = true := by kernel_rfl
theorem cellsU32 : Tryz.prog.cellsOf 44 = 1 := by kernel_rfl
/-- An array of numbers of one cell each, opened: each cell holds its number. -/
theorem array_cells32 {H : Type} {enc : TypeId × Value → H} {w : World} {base fuel n : Nat} {spare : Nat → Bool} {held : Bool} {t : TypeId} {cs : List Value} {zs : List Int} {ps : List MemPlace}
    (ht : Tryz.prog.underlying t = some (.array n 44)) (hd : DataW.trod enc Tryz.prog w base spare held fuel t cs = some (.agg (zs.map fun z => .lit (.int .u32 z)), ps)) :
    zs.length = n ∧ ∀ i (h : i < zs.length), cs[i]? = some (.int .u32 zs[i]) := by
  obtain ⟨xs, m1, _, hx1, hcl, hn3, hel⟩ := DataW.trod_array ht hd
  simp only [Prod.mk.injEq, DataW.agg.injEq] at hx1
  have hl : zs.length = xs.length := by have := congrArg List.length hx1.1; simpa using this
  refine ⟨hl.trans hn3, fun i hi => ?_⟩
  have hix : i < xs.length := by omega
  have h0 := hel i (by omega)
  rw [cellsU32, Nat.mul_one, List.getElem?_eq_getElem hix] at h0
  obtain ⟨k, e1, e2, _⟩ := DataW.trod_int Tryz.underlying44 h0
  have hk : zs[i] = k := by
    have := congrArg (fun l => l[i]?) hx1.1
    simp [hi, hix, e2] at this
    exact this
  rw [hk]
  have : (cs.drop i)[0]? = some (.int .u32 k) := by
    cases h : cs.drop i with
    | nil => rw [h] at e1; simp at e1
    | cons c r => rw [h] at e1; simp at e1; simp [e1]
  simpa using this
theorem gStart : Tryz.prog.globalNamed "geyser/sum.start" = some 0 := by kernel_rfl
theorem tStart : (Tryz.prog.globals[0]?).map (·.type) = some 87 := by kernel_rfl
theorem gRounds : Tryz.prog.globalNamed "geyser/sum.rounds" = some 1 := by kernel_rfl
theorem tRounds : (Tryz.prog.globals[1]?).map (·.type) = some 114 := by kernel_rfl
def startL : List Int := [1779033703, 3144134277, 1013904242, 2773480762, 1359893119, 2600822924, 528734635, 1541459225]
def roundsL : List Int := Sha.kL.map fun k : Nat => (k : Int)
theorem rounds_get : ∀ k, k < 64 → roundsL[k]? = some ((Sha.kN k : Nat) : Int) := by decide +kernel
theorem start_get : ∀ k, k < 8 → startL[k]? = some ((Sha.start8.get k : Nat) : Int) := by decide +kernel
theorem array_get32 {H : Type} {enc : TypeId × Value → H} {w : World} {base fuel n : Nat} {spare : Nat → Bool} {held : Bool} {t : TypeId} {cs : List Value} {zs : List Int} {ps : List MemPlace}
    (ht : Tryz.prog.underlying t = some (.array n 44)) (hd : DataW.trod enc Tryz.prog w base spare held fuel t cs = some (.agg (zs.map fun z => .lit (.int .u32 z)), ps)) (k : Nat) (z : Int) (hz : zs[k]? = some z) :
    cs[k]? = some (.int .u32 z) := by
  have hk : k < zs.length := by
    rcases Nat.lt_or_ge k zs.length with h | h
    · exact h
    · rw [List.getElem?_eq_none h] at hz; cases hz
  have := (array_cells32 ht hd).2 k hk
  rw [List.getElem?_eq_getElem hk] at hz
  rw [← Option.some.inj hz]
  exact this
/-- What the condition gives the walks: the two tables. -/
theorem tabs_of {W : World} (h : laidMetH Tryz.prog [("geyser/sum.start", Rows.laid_geyser_sum_start), ("geyser/sum.rounds", Rows.laid_geyser_sum_rounds)] W) : Tabs W := by
  rw [MakeChecks.laidMetH_plain _ _ _ (by kernel_rfl)] at h
  obtain ⟨ps, ⟨g1, t1, cs1, f1, p1, q1, hg1, ht1, hv1, hd1, ⟨g2, t2, cs2, f2, p2, q2, hg2, ht2, hv2, hd2, _⟩, _⟩, _, _⟩ := h
  obtain rfl := Option.some.inj (gStart.symm.trans hg1)
  obtain rfl := Option.some.inj (tStart.symm.trans ht1)
  obtain rfl := Option.some.inj (gRounds.symm.trans hg2)
  obtain rfl := Option.some.inj (tRounds.symm.trans ht2)
  refine ⟨fun k hk => ?_, ?_⟩
  · rw [World.var?_cell hg2 hv2 k]
    have := array_get32 (zs := roundsL) Tryz.underlying114 hd2 k _ (rounds_get k hk)
    simpa using this
  · have hcs : cs1 = Sha.rowArr 8 (Sha.stV Sha.start8) := by
      have hl := (DataW.trod_array Tryz.underlying87 hd1)
      obtain ⟨xs, m1, _, _, hcl, _, _⟩ := hl
      rw [show Tryz.prog.cellsOf 87 = 8 by kernel_rfl] at hcl
      apply Array.ext_getElem?
      intro i
      by_cases hi : i < 8
      · have := array_get32 (zs := startL) Tryz.underlying87 hd1 i _ (start_get i hi)
        rw [← Array.getElem?_toList, this]
        simp [Sha.rowArr, hi, Sha.stV]
      · have h8 : cs1.size = 8 := by simpa using hcl
        rw [Array.getElem?_eq_none (by omega), Array.getElem?_eq_none (by rw [Sha.rowArr_size]; omega)]
    unfold World.var? at hv1
    rw [hg1] at hv1
    simp only [Option.bind_some] at hv1
    split at hv1
    · rename_i cs t fr heq
      have : cs = cs1 := Option.some.inj hv1
      exact ⟨t, fr, by rw [heq, this, hcs]⟩
    · cases hv1
/-- The door's own heap meets the condition. -/
theorem door_met2 (os : Os) (args : Array Value) : laidMetH Tryz.prog [("geyser/sum.start", Rows.laid_geyser_sum_start), ("geyser/sum.rounds", Rows.laid_geyser_sum_rounds)] ((World.doorLaid Tryz.prog 600 os).forCall (fun _ _ => 0) ⟨#[], args, []⟩).memory :=
  laidMetH_of_parts3 (fuel := 8) (laidMet_of_run' 8 (by kernel_rfl) (by kernel_rfl)) (by kernel_rfl) (by kernel_rfl)
end Go.Proofs.YtcopjbapglndgaaGreatDoor
end

section
namespace Go.Proofs.YtcopjbapglndgaaGreatDoor
open Go.ChangeShapes Go.WideShapes Go.ChangeAt Go.RowKit Go.Joins
set_option linter.unusedVariables false

theorem own16 : ownKnob Tryz.prog.godebug = none := by kernel_rfl
theorem laidOut16 : laidOutB Tryz.prog = true := by kernel_rfl
def laid16 : List (String × DataW Unit) := [("unicode/utf8.acceptRanges", Rows.laid_unicode_utf8_acceptRanges), ("geyser/sum.fours", Rows.laid_geyser_sum_fours), ("geyser/sum.start", Rows.laid_geyser_sum_start), ("geyser/sum.rounds", Rows.laid_geyser_sum_rounds), ("unicode/utf8.first", Rows.laid_unicode_utf8_first)]
theorem plain16 : laidMetH Tryz.prog laid16 = laidMet Tryz.prog laid16 := by funext w; exact MakeChecks.laidMetH_plain _ _ _ (by kernel_rfl)
theorem tabs16 {W : World} (h0 : laidMetH Tryz.prog laid16 W) : Tabs W := by
  rw [plain16] at h0
  have h := h0.tail.tail
  obtain ⟨ps, ⟨g1, t1, cs1, f1, p1, q1, hg1, ht1, hv1, hd1, ⟨g2, t2, cs2, f2, p2, q2, hg2, ht2, hv2, hd2, _⟩, _⟩, _, _⟩ := h
  obtain rfl := Option.some.inj (gStart.symm.trans hg1)
  obtain rfl := Option.some.inj (tStart.symm.trans ht1)
  obtain rfl := Option.some.inj (gRounds.symm.trans hg2)
  obtain rfl := Option.some.inj (tRounds.symm.trans ht2)
  refine ⟨fun k hk => ?_, ?_⟩
  · rw [World.var?_cell hg2 hv2 k]
    have := array_get32 (zs := roundsL) Tryz.underlying114 hd2 k _ (rounds_get k hk)
    simpa using this
  · have hcs : cs1 = Sha.rowArr 8 (Sha.stV Sha.start8) := by
      have hl := (DataW.trod_array Tryz.underlying87 hd1)
      obtain ⟨xs, m1, _, _, hcl, _, _⟩ := hl
      rw [show Tryz.prog.cellsOf 87 = 8 by kernel_rfl] at hcl
      apply Array.ext_getElem?
      intro i
      by_cases hi : i < 8
      · have := array_get32 (zs := startL) Tryz.underlying87 hd1 i _ (start_get i hi)
        rw [← Array.getElem?_toList, this]
        simp [Sha.rowArr, hi, Sha.stV]
      · have h8 : cs1.size = 8 := by simpa using hcl
        rw [Array.getElem?_eq_none (by omega), Array.getElem?_eq_none (by rw [Sha.rowArr_size]; omega)]
    unfold World.var? at hv1
    rw [hg1] at hv1
    simp only [Option.bind_some] at hv1
    split at hv1
    · rename_i cs t fr heq
      have : cs = cs1 := Option.some.inj hv1
      exact ⟨t, fr, by rw [heq, this, hcs]⟩
    · cases hv1
theorem shaped16 (os : Os) : (World.laidAll Tryz.prog os laid16).Shaped Tryz.prog := World.shaped_of_ZipB (by kernel_rfl) (by kernel_rfl)
theorem met16 (os : Os) (args : Array Value) : laidMetH Tryz.prog laid16 ((World.laidAll Tryz.prog os laid16).forCall (fun _ _ => 0) ⟨#[], args, []⟩).memory := by
  rw [plain16]; exact laidMet_laidAll _ (by kernel_rfl) (by kernel_rfl)
instance inp_some : Inhabited Inp := ⟨zInp⟩
theorem gFours : Tryz.prog.globalNamed "geyser/sum.fours" = some 2 := by kernel_rfl
theorem tFours : (Tryz.prog.globals[2]?).map (·.type) = some 117 := by kernel_rfl
def foursL : List Int := [0, 498536548, 997073096, 651767980, 1994146192, 1802195444, 1303535960, 1342533948, 3988292384, 4027552580, 3604390888, 3412177804, 2607071920, 2262029012, 2685067896, 3183342108]
theorem fours_get : ∀ k, k < 16 → foursL[k]? = some ((Sha.four k : Nat) : Int) := by decide
theorem fours16 {W : World} (h0 : laidMetH Tryz.prog laid16 W) : Fours W := by
  rw [plain16] at h0
  have h := h0.tail
  obtain ⟨ps, ⟨g1, t1, cs1, f1, p1, q1, hg1, ht1, hv1, hd1, _⟩, _, _⟩ := h
  obtain rfl := Option.some.inj (gFours.symm.trans hg1)
  obtain rfl := Option.some.inj (tFours.symm.trans ht1)
  intro k hk
  rw [World.var?_cell hg1 hv1 k]
  have := array_get32 (zs := foursL) Tryz.underlying117 hd1 k _ (fours_get k hk)
  simpa using this
section
variable {H : Type} {enc : TypeId × Value → H} {w : World} {base : Nat} {held : Bool}
theorem cellsInp : Tryz.prog.cellsOf 54 = 2 := by kernel_rfl
set_option maxRecDepth 100000 in
theorem inp_in {fuel : Nat} {cs : List Value} {y : DataW H × List MemPlace} (h : DataW.trod enc Tryz.prog w base (fun _ => true) held fuel 54 cs = some y) (hw : ∀ n ∈ DataW.weights Tryz.prog 54 y.1, n ≤ reachBytes) :
    ∃ x : Inp, cs = [.string (strOf x.name), .slice x.a x.b.length x.c] ∧ (IsByte x.name ∧ x.name.length ≤ 140737488355328 ∧ x.b.length ≤ 140737488355328) ∧ Sl w x.a x.c x.b := by
  obtain ⟨xs, n, _, hy, hlen, hxl, hf⟩ := DataW.trod_struct Tryz.underlying54 h
  have hlen2 : cs.length = 2 := hlen.trans cellsInp
  match cs, hlen2 with
  | [c0, c1], _ =>
    match xs, hxl with
    | [y0, y1], _ =>
      have f0 : DataW.trod enc Tryz.prog w base (fun _ => true) held n 9 [c0] = some y0 := hf 0 _ rfl
      have f1 : DataW.trod enc Tryz.prog w base (fun _ => true) held n 35 [c1] = some y1 := hf 1 _ rfl
      obtain ⟨s, e0, r0, _⟩ := DataW.trod_string Tryz.underlying9 f0
      obtain ⟨a, cap, l, e1, hs, W1⟩ := bytes_in2 f1
      simp only [List.cons.injEq, and_true] at e0
      subst e0 e1
      obtain ⟨nm, rfl, hb, hl⟩ := str_of s
      have hy1 : y.1 = .agg [y0.1, y1.1] := by rw [hy]; rfl
      have hww : DataW.weights Tryz.prog 54 y.1 = DataW.weights Tryz.prog 9 y0.1 ++ (DataW.weights Tryz.prog 35 y1.1 ++ []) := by
        rw [hy1]
        simp [DataW.weights, DataW.weightsEach, Tryz.underlying54]
      rw [hww] at hw
      have h1 := W1 fun q hq => hw q (by simp [hq])
      have h0 := hw (strOf nm).data.toList.length (by rw [r0]; simp [DataW.weights])
      have hr : reachBytes = 140737488351232 := rfl
      have h0s : (strOf nm).data.toList.length = nm.length := by rw [strOf_data, List.length_map]
      exact ⟨⟨nm, l, a, cap⟩, rfl, ⟨hb, by show nm.length ≤ _; omega, by show l.length ≤ _; omega⟩, hs⟩
set_option maxRecDepth 100000 in
/-- Files that are handed in. -/
theorem inps_in {fuel : Nat} {c : Value} {x : DataW H × List MemPlace} (h : DataW.trod enc Tryz.prog w base (fun _ => true) held fuel 22 [c] = some x) (hw : ∀ n ∈ DataW.weights Tryz.prog 22 x.1, n ≤ reachBytes) :
    ∃ a cap L, c = .slice a (L : List Inp).length cap ∧ Inps w a cap L := by
  rcases DataW.trod_slice Tryz.underlying22 h with ⟨hcs, hx⟩ | ⟨a, len, cap, elems, rest, n, _, hcs, hx, hb, hl, hm, hlen, hel, _, _⟩
  · simp only [List.cons.injEq, and_true] at hcs
    exact ⟨none, 0, [], hcs, ⟨fun x hx => (by cases hx), by simp, by unfold maxLen; omega, .inl rfl, fun x hx => (by cases hx)⟩⟩
  · simp only [List.cons.injEq, and_true] at hcs
    obtain ⟨f, hf⟩ := Go.Deep.choose_lt (α := Inp) (p := fun i v => (IsByte v.name ∧ v.name.length ≤ 140737488355328 ∧ v.b.length ≤ 140737488355328) ∧ w.cell? ((a.add (i * 2)).add 0) = some (.string (strOf v.name)) ∧ w.cell? ((a.add (i * 2)).add 1) = some (.slice v.a v.b.length v.c) ∧ Sl w v.a v.c v.b) (n := len) fun i hi => by
      have h1 := hel i hi
      rw [cellsInp] at h1
      have hie : i < elems.length := by omega
      rw [List.getElem?_eq_getElem hie] at h1
      obtain ⟨cs, hcs1, hcs2⟩ := Option.bind_eq_some_iff.1 h1
      obtain ⟨z, rfl, h2, h3⟩ := inp_in hcs2 fun q hq => hw q (by
        rw [hx]
        simp only [DataW.weights, Tryz.underlying22, List.mem_cons, List.mem_append]
        exact .inr (.inl (weights_mem (List.mem_map_of_mem (List.getElem_mem hie)) q hq)))
      obtain ⟨_, _, hc⟩ := World.cells?_some hcs1
      exact ⟨z, h2, hc 0 (by omega), hc 1 (by omega), h3⟩
    have hll : ((List.range len).map f).length = len := by simp
    refine ⟨some a, cap, (List.range len).map f, by rw [hll]; exact hcs, ⟨fun x hx => ?_, by rw [hll]; exact hl, hm, ?_, fun x hx => ?_⟩⟩
    · obtain ⟨i, hi, rfl⟩ := List.mem_map.1 hx
      exact (hf i (List.mem_range.1 hi)).1
    · by_cases h0 : len = 0
      · exact .inl (List.length_eq_zero_iff.1 (by rw [hll]; exact h0))
      · obtain ⟨b, off, spot⟩ := a
        obtain ⟨_, hc0, _⟩ := hf 0 (by omega)
        have hc0' : w.cell? (⟨b, off, spot⟩ : Addr) = some (.string (strOf (f 0).name)) := by simpa [Addr.add] using hc0
        have hspot : spot = none := World.cell?_spot hc0'
        subst hspot
        have hadd : ∀ r j, ((⟨b, off, none⟩ : Addr).add r).add j = ⟨b, off + r + j, none⟩ := fun r j => by rw [addr_add, addr_add]
        refine .inr ⟨b, off, rfl, World.block_lt_of_cell? w _ hc0', fun i hi j hj => ?_⟩
        have hi2 : i < len := by rw [hll] at hi; exact hi
        have hgi : ((List.range len).map f)[i] = f i := by simp
        rw [hgi]
        obtain ⟨_, e0, e1, _⟩ := hf i hi2
        rw [hadd] at e0 e1
        have hj2 : j = 0 ∨ j = 1 := by omega
        rcases hj2 with rfl | rfl
        · exact e0
        · exact e1
    · obtain ⟨i, hi, rfl⟩ := List.mem_map.1 hx
      exact (hf i (List.mem_range.1 hi)).2.2.2
set_option maxRecDepth 100000 in
theorem inps_arg {r : Reach} {b0 : Nat} {v : Value} {d : DataW H} {q : List MemPlace} (hv : Value.okWide Tryz.prog w r b0 22 v) (h : DataW.Trod enc Tryz.prog w base (fun _ => true) held 22 v d q) (hw : ∀ n ∈ DataW.weights Tryz.prog 22 d, n ≤ reachBytes) :
    ∃ a L cap, v = .slice a (L : List Inp).length cap ∧ Inps w a cap L := by
  obtain ⟨a, n, c, rfl⟩ := okWide_slice Tryz.underlying22 hv
  obtain ⟨fuel, hf⟩ := h
  obtain ⟨a', cap', L, e, hs⟩ := inps_in hf hw
  exact ⟨a', L, cap', e, hs⟩
end
end Go.Proofs.YtcopjbapglndgaaGreatDoor
end

section
namespace Go.Proofs.YtcopjbapglndgaaGreatDoor
open Go.ChangeShapes Go.WideShapes Go.ChangeAt Go.RowKit Go.Joins
set_option linter.unusedVariables false

section
variable {H : Type} {enc : TypeId × Value → H} {w : World} {base : Nat} {held : Bool}
set_option maxRecDepth 100000 in
theorem ids_in2 {fuel : Nat} {c : Value} {x : DataW H × List MemPlace} (h : DataW.trod enc Tryz.prog w base (fun _ => true) held fuel 23 [c] = some x) (hw : ∀ n ∈ DataW.weights Tryz.prog 23 x.1, n ≤ reachBytes) :
    ∃ a cap l, c = .slice a (l : List Nat).length cap ∧ Us w a cap l ∧ l.length ≤ 140737488351232 := by
  obtain ⟨a, cap, l, e, hs⟩ := ids_in h
  refine ⟨a, cap, l, e, hs, ?_⟩
  rcases open_ints Tryz.underlying23 Tryz.underlying44 cellsU h with ⟨hcs, hx⟩ | ⟨a', len, cap', zs, hcs, _, hl, hm, hz, hx, hcell, hwz⟩
  · simp only [List.cons.injEq, and_true] at hcs
    rw [e] at hcs
    injection hcs with _ h2 _
    omega
  · simp only [List.cons.injEq, and_true] at hcs
    rw [e] at hcs
    injection hcs with _ h2 _
    subst hx
    have := hw (((lits (H := H) .u32 (zs.take len)).length + (lits (H := H) .u32 (zs.drop len)).length) * Tryz.prog.bytesOf 44) (by simp [DataW.weights, Tryz.underlying23])
    rw [show Tryz.prog.bytesOf 44 = 4 from by kernel_rfl] at this
    have hr : reachBytes = 140737488351232 := rfl
    have hlz : len ≤ zs.length := by rw [hz]; split <;> omega
    simp [lits] at this
    omega
set_option maxRecDepth 100000 in
theorem ids_arg {r : Reach} {b0 : Nat} {v : Value} {d : DataW H} {q : List MemPlace} (hv : Value.okWide Tryz.prog w r b0 23 v) (h : DataW.Trod enc Tryz.prog w base (fun _ => true) held 23 v d q) (hw : ∀ n ∈ DataW.weights Tryz.prog 23 d, n ≤ reachBytes) :
    ∃ a l cap, v = .slice a (l : List Nat).length cap ∧ Us w a cap l ∧ l.length ≤ 140737488351232 := by
  obtain ⟨a, n, c, rfl⟩ := okWide_slice Tryz.underlying23 hv
  obtain ⟨fuel, hf⟩ := h
  obtain ⟨a', cap', l, e, hs⟩ := ids_in2 hf hw
  exact ⟨a', l, cap', e, hs⟩
end
end Go.Proofs.YtcopjbapglndgaaGreatDoor
end

section
namespace Go.Proofs.YtcopjbapglndgaaGreatDoor
open Go.ChangeShapes Go.WideShapes

theorem handed_shaped_sized {H : Type} {enc : TypeId × Value → H} {a : Assume} {C : Checked} {os : Os} {f : FuncId} {fn : Func} {s : ChangeSpec} {conds : List PathCond} {apart fresh handsOn again : Bool} {X : World → Array Value → Prop}
    (stays : ∀ (w w' : World) (args : Array Value), w.heap = w'.heap → X w args → X w' args) (knob : ownKnob C.prog.godebug = none) (hos : os.Started) (plain : C.prog.inits.idxOf? f = none) (is : C.prog.funcs[f]? = some fn)
    (fits : ∃ (w : World) (tape : Tape) (i : Input), w.os = os ∧ (w.forCall tape i).Shaped C.prog ∧ i.vars = [] ∧ Input.okWide C.prog (w.forCall tape i) .any w.heap.size f i ∧
      ((s.pre enc C.prog fn conds apart (w.forCall tape i).memory i.args ∧ X (w.forCall tape i).memory i.args) ∧ sizedMet enc C.prog fn (OpenSpec.ofChange s) apart (w.forCall tape i).memory i.args) ∧ a.holds C.prog (lone (Frame.enter C.prog f i.args .normal) [] (w.forCall tape i)))
    (walk : ∀ (W : World) (base : Nat) (args : Array Value) (ds gs : List (DataW H)) (before : List MemPlace), W.ShapedOpen C.prog → X W args →
      (∀ (j : Nat) t v, fn.params[j]? = some t → args[j]? = some v → Value.okWide C.prog W .any base t v) →
      DataW.Whole enc C.prog fn.params.toList s.vars apart W args.toList ds gs before →
      (DataW.weightsEach C.prog (fn.params.toList ++ s.plain.varTypes C.prog) (ds ++ gs)).all (· ≤ reachBytes) = true →
      Calls C.prog f args W fun e W' => ∃ v, e = .returned v ∧ s.post enc C.prog fn apart fresh handsOn again W args v W') :
    ReturnsInHanded a C os f .any (fun w args => (s.pre enc C.prog fn conds apart w args ∧ X w args) ∧ sizedMet enc C.prog fn (OpenSpec.ofChange s) apart w args) (s.post enc C.prog fn apart fresh handsOn again) := by
  apply returnsInHanded_of_calls knob hos plain fits
  rintro w tape i - shape - ⟨-, -, -, g, hg, -, -, -, -, vals⟩ ⟨⟨⟨ds, gs, before, whole, -⟩, x⟩, hz⟩ -
  obtain rfl : g = fn := Option.some.inj (hg.symm.trans is)
  have W1 : DataW.Whole enc C.prog g.params.toList s.vars apart (w.forCall tape i) i.args.toList ds gs before := DataW.Whole.of_heap (by rfl) whole
  refine (walk _ w.heap.size i.args ds gs before shape (stays (w.forCall tape i).memory _ _ (by rfl) x) vals W1 (hz.weights whole)).mono ?_
  rintro e W' ⟨v, rfl, post⟩
  exact ChangeSpec.post_blind post
end Go.Proofs.YtcopjbapglndgaaGreatDoor
end
