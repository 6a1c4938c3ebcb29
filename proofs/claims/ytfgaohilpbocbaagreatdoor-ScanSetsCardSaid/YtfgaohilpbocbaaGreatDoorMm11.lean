/-
  slices.Concat of bytes; packet's digest of a name and what is told.
  Package codec: an In in memory; take, fail.
  Package codec: what an In answers.
  Package packet: how many bytes a packet says it has.
-/
import Derived.Test.YtfgaohilpbocbaaGreatDoorMm10
import Derived.Lib.AppendZeros
import Derived.Deep.DeepCutAuto
import Derived.Deep.CutBlock
section
namespace Go.Proofs.YtfgaohilpbocbaaGreatDoor
open Go.ChangeShapes Go.WideShapes Go.ChangeAt Go.RowKit Go.Joins
set_option linter.unusedVariables false

set_option maxRecDepth 100000 in
theorem grow_new (n : Nat) (w : World) (h0 : 0 < n) (hn : n ≤ 1000000) :
    Calls Tryz.prog 169 #[.slice none 0 0, .int .i64 (n : Int)] w fun e w' => ∃ v, e = .returned v ∧ Acc w w' v [] := by
  obtain ⟨i0, hi, hz0, hz1, hz2⟩ := info_parts info8C
  have happ := Lib.run_append_nil_zeros (P := Tryz.prog) w 53 3 53 5 i0 (.int .u8 0) .i64 .i64 Tryz.underlying53 Tryz.underlying3 hi hz0 n h0 (by omega) (by omega) (by rw [hz2]; omega)
  generalize hcap : grownCap w n 0 5 = cap2 at happ
  have hcapge : n ≤ cap2 := by rw [← hcap]; exact grownCap_ge w _ 0 5
  have hcaple : cap2 ≤ maxLen := by rw [← hcap]; exact grownCap_le_maxLen w _ 0 5 (by unfold maxLen; omega)
  generalize hZ : (Builtin.zeroCells (Value.int .u8 0).cells n ++ Builtin.zeroCells (Value.int .u8 0).cells (cap2 - n)) = Z at happ
  have hZs : Z.size = cap2 * 1 := by rw [← hZ]; simp [size_zeroCells, Value.cells]; omega
  have hHA : Acc w (w.drew.alloc (.cells Z 5)) (.slice (some ⟨w.heap.size, 0, none⟩) 0 cap2) [] := ⟨World.ownsRow_made w.drew Z cap2 (Nat.zero_le _) hcaple hZs, fun j hj => by
    have : w.heap.size = j := by simpa [Value.ownBlock] using hj
    omega, ((Below.refl w.heap.size w).drew).alloc (Nat.le_refl _) _⟩
  have HA := Lib.hid hHA
  have hc63 : cap2 ≤ 9223372036854775807 := by unfold maxLen at hcaple; omega
  clear hcap hZ hHA hZs hz0 hz1 hz2 hi
  go_enter Tryz.func169, Tryz.ntmps169
  go_wp2_with (at_builtin; refine Lib.wpList_append_run _ rfl _ _ _ _ rfl _ _ rfl rfl _ _ happ ?_)
  go_ret
  exact ⟨_, rfl, HA.out⟩

/-- Slices of bytes, one behind the other in cells. -/
def Parts (w : World) (g : Nat) (ls : List (List Nat)) : Prop := ∀ i (h : i < ls.length), ∃ a c, w.cell? ⟨g, i, none⟩ = some (.slice a ls[i].length c) ∧ Sl w a c ls[i]
theorem Parts.below {w w' : World} {g : Nat} {ls : List (List Nat)} (h : Parts w g ls) (k : Below w.heap.size w w') : Parts w' g ls := fun i hi => by
  obtain ⟨a, c, h1, h2⟩ := h i hi
  exact ⟨a, c, (k.cell (p := ⟨g, i, none⟩) (World.block_lt_of_cell? w _ h1)).trans h1, h2.below k⟩
theorem flat_next {ls : List (List Nat)} {k : Nat} (h : k < ls.length) : (ls.take (k + 1)).flatten = (ls.take k).flatten ++ ls[k] := by
  rw [List.take_succ_eq_append_getElem h, List.flatten_append]
  simp
theorem flat_most {ls : List (List Nat)} {k : Nat} : (ls.take k).flatten.length ≤ ls.flatten.length := by
  conv => rhs; rw [← List.take_append_drop k ls, List.flatten_append, List.length_append]
  omega
set_option maxRecDepth 1000000 in
set_option maxHeartbeats 2000000 in
theorem concat_any (g : Nat) (ls : List (List Nat)) (w : World) (hp : Parts w g ls) (h0 : 0 < ls.flatten.length) (hn : ls.flatten.length ≤ 900000) (hlc : ls.length ≤ 1000) :
    Calls Tryz.prog 128 #[.slice (some ⟨g, 0, none⟩) ls.length ls.length] w fun e w' => ∃ v, e = .returned v ∧ Acc w w' v ls.flatten := by
  have HP := Lib.hid hp
  obtain ⟨N, hN⟩ : ∃ N, N = ls.flatten.length := ⟨_, rfl⟩
  have HG : Hid (Calls Tryz.prog 169 #[.slice none 0 0, .int .i64 (N : Int)] w fun e w' => ∃ v, e = .returned v ∧ Acc w w' v []) := grow_new N w (by omega) (by omega)
  have HN : Hid (ls.flatten.length = N) := hN.symm
  rw [← hN] at h0 hn
  clear hp hN
  go_enter Tryz.func128, Tryz.ntmps128
  go_wp2_with fail
  go_loopw [3, 11] (fun s3 j wr => ∃ k q : Nat, k ≤ ls.length ∧ j = .int .i64 (k : Int) ∧ s3 = .int .i64 (q : Int) ∧ Hid (q = (ls.take k).flatten.length) ∧ Hid (wr = w)) (fun _ j _ => ls.length - (intOf j).toNat)
  case atStart => exact ⟨0, 0, by omega, rfl, rfl, by show _ = _; simp, Lib.hid rfl⟩
  case round =>
    obtain ⟨k, q, hk, rfl, rfl, HQ, HW⟩ := hrel
    have hwr := HW.out
    subst wr
    by_cases hlt : k < ls.length
    · obtain ⟨a, c, hc, hs⟩ := HP.out k hlt
      have hsl := hs.lt
      have HS := Lib.hid hs
      have HNX := Lib.hid (flat_next hlt)
      have hm : q + ls[k].length ≤ N := by
        have := flat_most (ls := ls) (k := k + 1)
        rw [HNX.out, List.length_append, ← HQ.out, HN.out] at this
        exact this
      have hkz : (k : Int) < (ls.length : Int) := by omega
      have HR : Hid (q + ls[k].length = (ls.take (k + 1)).flatten.length) := by show _ = _; rw [HNX.out, List.length_append, ← HQ.out]
      obtain ⟨m, hm2⟩ : ∃ m, m = ls[k].length := ⟨_, rfl⟩
      rw [← hm2] at hc hm HR hsl
      clear hs HS HNX HQ hm2
      go_wp2_with fail
      go_roundw
      case rel => exact ⟨k + 1, q + m, by omega, by go_num, by go_num, HR, Lib.hid trivial⟩
      case measure => simp [intOf]; omega
    · obtain rfl : k = ls.length := by omega
      rw [List.take_length] at HQ
      have hqN : q = N := by rw [← HN.out]; exact HQ.out
      subst hqN
      clear HQ
      go_wp2_with fail
      (with_reducible refine HG.out.mono ?_)
      rintro e w1 ⟨v1, rfl, ha1⟩
      have HA0 : Hid (Acc w w1 v1 ((ls.take 0).flatten)) := by
        show Acc _ _ _ _
        simpa using ha1
      clear ha1 HG
      go_wp2_with fail
      go_loopw [6, 27] (fun s6 j wq => ∃ k : Nat, k ≤ ls.length ∧ j = .int .i64 (k : Int) ∧ Hid (Acc w wq s6 ((ls.take k).flatten))) (fun _ j _ => ls.length - (intOf j).toNat)
      case atStart => exact ⟨0, by omega, rfl, HA0⟩
      case round =>
        obtain ⟨k, hk, rfl, HA⟩ := hrel
        clear HA0
        by_cases hlt : k < ls.length
        · obtain ⟨a, c, hc, hs⟩ := (HP.out.below HA.out.below) k hlt
          have HS := Lib.hid hs
          have hsl := hs.lt
          have HNX := Lib.hid (flat_next hlt)
          have hkz : (k : Int) < (ls.length : Int) := by omega
          have HM : Hid ((ls.take k).flatten.length + ls[k].length ≤ 1000000) := by
            have := flat_most (ls := ls) (k := k + 1)
            rw [HNX.out, List.length_append, HN.out] at this
            show _ ≤ _
            omega
          obtain ⟨m, hm2⟩ : ∃ m, m = ls[k].length := ⟨_, rfl⟩
          have HML : Hid (ls[k].length = m) := hm2.symm
          rw [← hm2] at hc hsl
          clear hs hm2
          go_wp2_with (at_builtin; refine wpList_acc _ rfl _ _ rfl u6 ((ls.take k).flatten) rfl HA.out a c m ls[k] rfl HML.out HS.out HM.out ?_; intro v2 w2 HA2)
          have HA3 : Hid (Acc w w2 v2 ((ls.take (k + 1)).flatten)) := by show Acc _ _ _ _; rw [HNX.out]; exact HA2.out
          clear HA2 HA HS HNX
          go_roundw
          case rel => exact ⟨k + 1, by omega, by go_num, HA3⟩
          case measure => simp [intOf]; omega
        · obtain rfl : k = ls.length := by omega
          rw [List.take_length] at HA
          go_wp2_with fail
          go_ret
          exact ⟨_, rfl, HA.out⟩

def z32 : Array Value := #[.int .u8 0, .int .u8 0, .int .u8 0, .int .u8 0, .int .u8 0, .int .u8 0, .int .u8 0, .int .u8 0, .int .u8 0, .int .u8 0, .int .u8 0, .int .u8 0, .int .u8 0, .int .u8 0, .int .u8 0, .int .u8 0, .int .u8 0, .int .u8 0, .int .u8 0, .int .u8 0, .int .u8 0, .int .u8 0, .int .u8 0, .int .u8 0, .int .u8 0, .int .u8 0, .int .u8 0, .int .u8 0, .int .u8 0, .int .u8 0, .int .u8 0, .int .u8 0]
set_option maxRecDepth 1000000 in
set_option maxHeartbeats 2000000 in
/-- packet.check: the digest of a name and of what is told. -/
theorem check_any (set : List Nat) (a : Option Addr) (c : Nat) (l : List Nat) (w : World) (h8 : set.length = 8) (hsb : IsByte set) (hs : Sl w a c l) (hl : l.length ≤ 800000) (ht : Tabs w) :
    Calls Tryz.prog 88 #[.agg (rowArr 8 (vOf set)), .slice a l.length c] w fun e w' => e = .returned (.agg (rowArr 32 (vOf (dgN (set ++ l))))) ∧ Below w.heap.size w w' := by
  have HBX : Hid ((w.alloc (.cells (rowArr 8 (vOf set)) 64)).heap[w.heap.size]? = some (.cells (rowArr 8 (vOf set)) 64 (0, 0))) := heap_alloc_last w _
  have HB0 : Hid (Below w.heap.size w (w.alloc (.cells (rowArr 8 (vOf set)) 64))) := (Below.refl _ _).alloc (Nat.le_refl _) _
  have HS := Lib.hid hs
  have HT := Lib.hid ht
  have hlm := hs.lt
  have hcm : c ≤ 9223372036854775807 := by have := hs.most; unfold maxLen at this; omega
  obtain ⟨arr, harr⟩ : ∃ arr, arr = rowArr 8 (vOf set) := ⟨_, rfl⟩
  rw [← harr] at HBX HB0 ⊢
  have HAR := Lib.hid harr
  have HSB := Lib.hid hsb
  have H8 := Lib.hid h8
  obtain ⟨D, hD⟩ : ∃ D, D = dgN (set ++ l) := ⟨_, rfl⟩
  rw [← hD]
  have HDE := Lib.hid hD
  clear hs harr ht hsb h8 hD
  go_enter Tryz.func88, Tryz.ntmps88
  go_upto_region 1 with fail
  change Code.wp _ _ _ _ ((w.alloc (.cells arr 64)).alloc (.cells z32 50))
  obtain ⟨w0, hw0⟩ : ∃ w0, w0 = w.alloc (.cells arr 64) := ⟨_, rfl⟩
  rw [← hw0] at HBX HB0 ⊢
  have hs0 : w0.heap.size = w.heap.size + 1 := by rw [hw0]; simp
  have HCX : Hid ((w0.alloc (.cells z32 50)).heap[w0.heap.size]? = some (.cells z32 50 (0, 0))) := heap_alloc_last w0 _
  have HB01 : Hid (Below w0.heap.size w0 (w0.alloc (.cells z32 50))) := (Below.refl _ _).alloc (Nat.le_refl _) _
  obtain ⟨w1, hw1⟩ : ∃ w1, w1 = w0.alloc (.cells z32 50) := ⟨_, rfl⟩
  rw [← hw1] at HCX HB01 ⊢
  obtain ⟨B, hB⟩ : ∃ B, B = w.heap.size := ⟨_, rfl⟩
  rw [hs0] at HCX
  rw [← hB] at HBX HCX ⊢
  have hwB : w.heap.size ≤ B := by omega
  have HB1 : Hid (Below w.heap.size w w1) := HB0.out.trans (HB01.out.mono (by omega))
  have HBX1 : Hid (w1.heap[B]? = some (.cells (rowArr 8 (vOf set)) 64 (0, 0))) := by
    have := (HB01.out.block B (by omega)).trans HBX.out
    rw [HAR.out] at this
    exact this
  have hC1 : B + 1 < w1.heap.size := (Array.getElem?_eq_some_iff.1 HCX.out).1
  have HT1 := Lib.hid (HT.out.below HB1.out)
  clear hw0 hw1 hB hs0 HB0 HB01 HBX HAR HT
  have HSET : Hid (Sl w1 (some ⟨B, 0, none⟩) 8 set) := by
    refine ⟨HSB.out, by rw [H8.out]; exact Nat.le_refl _, by unfold maxLen; omega, fun e => (by cases e), .inr ⟨B, 0, rfl, fun i hi => ?_⟩⟩
    have hi8 : i < 8 := by rw [H8.out] at hi; exact hi
    rw [cell_of_block HBX1.out, ← vOf_eq set i hi, Nat.zero_add]
    simp [rowArr, hi8]
  have HS1 := Lib.hid (HS.out.below HB1.out)
  have HPB : Hid (∀ ty : TypeId, Below w1.heap.size w1 (w1.alloc (.cells #[.slice (some ⟨B, 0, none⟩) 8 8, .slice a l.length c] ty))) := fun ty => (Below.refl _ _).alloc (Nat.le_refl _) _
  have HPH : Hid (∀ ty : TypeId, (w1.alloc (.cells #[.slice (some ⟨B, 0, none⟩) 8 8, .slice a l.length c] ty)).heap[w1.heap.size]? = some (.cells #[.slice (some ⟨B, 0, none⟩) 8 8, .slice a l.length c] ty (0, 0))) := fun ty => heap_alloc_last w1 _
  have HPP : Hid (∀ ty : TypeId, Parts (w1.alloc (.cells #[.slice (some ⟨B, 0, none⟩) 8 8, .slice a l.length c] ty)) w1.heap.size [set, l]) := fun ty i hi => by
    have e : i = 0 ∨ i = 1 := by have : i < 2 := hi; omega
    rcases e with rfl | rfl
    · exact ⟨some ⟨B, 0, none⟩, 8, by rw [cell_of_block (HPH.out ty)]; show some (Value.slice _ 8 8) = some (Value.slice _ set.length 8); rw [H8.out], HSET.out.below (HPB.out ty)⟩
    · exact ⟨a, c, by rw [cell_of_block (HPH.out ty)]; rfl, HS1.out.below (HPB.out ty)⟩
  have HCC : Hid (∀ ty : TypeId, Calls Tryz.prog 128 #[.slice (some ⟨w1.heap.size, 0, none⟩) 2 2] (w1.alloc (.cells #[.slice (some ⟨B, 0, none⟩) 8 8, .slice a l.length c] ty)) fun e w' => ∃ v, e = .returned v ∧ Acc (w1.alloc (.cells #[.slice (some ⟨B, 0, none⟩) 8 8, .slice a l.length c] ty)) w' v (set ++ l)) := fun ty => by
    have h := concat_any w1.heap.size [set, l] _ (HPP.out ty) (by simp [H8.out]; omega) (by simp [H8.out]; omega) (by simp)
    simpa using h
  clear HPH HPP
  obtain ⟨T, hT⟩ : ∃ T, T = set ++ l := ⟨_, rfl⟩
  have hTb : IsByte T := by
    rw [hT]
    intro x hx
    rcases List.mem_append.1 hx with h | h
    · exact HSB.out x h
    · exact HS1.out.byte x h
  have hTl : T.length ≤ 1000000 := by rw [hT, List.length_append, H8.out]; omega
  rw [← hT] at HCC
  have HDT : Hid (D = dgN T) := by show _ = _; rw [hT]; exact HDE.out
  clear hT HDE HSB HSET HS1 HS
  go_wp2_with fail
  (with_reducible refine (HCC.out _).mono ?_)
  rintro e w2 ⟨v, rfl, ha⟩
  obtain ⟨a2, c2, rfl, hs2, _⟩ := ha.own.sl hTb
  have HB2 : Hid (Below w1.heap.size w1 w2) := (HPB.out _).trans (ha.below.mono (HPB.out _).size)
  have HDG := Lib.hid (digest_sl a2 c2 T w2 hs2 hTl (HT1.out.below HB2.out))
  rw [← HDT.out] at HDG
  clear ha hs2 HCC HPB HT1 HDT
  go_wp2_with fail
  (with_reducible refine HDG.out.mono ?_)
  rintro e w3 ⟨rfl, b3⟩
  have HB3 : Hid (Below w1.heap.size w1 w3) := HB2.out.trans (b3.mono HB2.out.size)
  have HC3 : Hid (w3.heap[B + 1]? = some (.cells z32 50 (0, 0))) := (HB3.out.block _ hC1).trans HCX.out
  clear HDG b3 HB2 HCX
  have h13 := HB3.out.size
  go_wp2_with (refine wpList_store_arr rfl 50 _ _ rfl (B + 1) (rowArr 32 (vOf D)) rfl rfl 50 _ HC3.out (by rw [rowArr_size]; kernel_rfl) (by rw [rowArr_size]; rfl) (oneCell_v D 32) ?_; intro w4 HC4 hf4)
  have HB4 : Hid (Below w.heap.size w w4) := HB1.out.trans ((HB3.out.mono HB1.out.size).trans (hf4.out.below (by have := HB1.out.size; omega) fun k hk e => by omega))
  exact bodyPost_ret (v := .agg (rowArr 32 (vOf D))) (results_cell_row rfl _ _ (B + 1) 50 (rowArr 32 (vOf D)) (0, 0) _ rfl HC4.out Tryz.underlying50 rfl (by rw [rowArr_size]; kernel_rfl)) rfl ⟨rfl, HB4.out⟩
end Go.Proofs.YtfgaohilpbocbaaGreatDoor
end

section
namespace Go.Proofs.YtfgaohilpbocbaaGreatDoor
open Go.ChangeShapes Go.WideShapes Go.ChangeAt Go.RowKit Go.Joins
set_option linter.unusedVariables false

/-- The block b is an In that has these bytes left (none: it is bad), all of it in blocks that X names, none of them below B. -/
def InAt (B : Nat) (X : Nat → Prop) (w : World) (b : Nat) (s : Option (List Nat)) : Prop :=
  X b ∧ (∀ k, X k → B ≤ k ∧ k < w.heap.size) ∧ ∃ a c, w.heap[b]? = some (.cells #[.slice a (s.getD []).length c, .bool s.isNone] 219 (0, 0)) ∧ Sl w a c (s.getD []) ∧ (s.getD []).length ≤ 60000 ∧ ∀ p, a = some p → (s.getD []) ≠ [] → X p.block ∧ p.block ≠ b
theorem InAt.keep {B : Nat} {X Y : Nat → Prop} {w w' : World} {b : Nat} {s : Option (List Nat)} (h : InAt B X w b s) (k : Fr Y w w') (hx : ∀ j, X j → ¬ Y j) : InAt B X w' b s := by
  obtain ⟨h1, h2, a, c, h3, h4, h5, h6⟩ := h
  exact ⟨h1, fun j hj => ⟨(h2 j hj).1, Nat.lt_of_lt_of_le (h2 j hj).2 k.size⟩, a, c, (k.block b (h2 b h1).2 (hx b h1)).trans h3, h4.of_block fun p hp hl => k.block _ (h2 _ (h6 p hp hl).1).2 (hx _ (h6 p hp hl).1), h5, h6⟩
theorem InAt.fail {B : Nat} {X : Nat → Prop} {w : World} {b : Nat} {s : Option (List Nat)} (h : InAt B X w b s) : InAt B X ((w.setCell ⟨b, 0, none⟩ (.slice none 0 0)).setCell ⟨b, 1, none⟩ (.bool true)) b none := by
  obtain ⟨h1, h2, a, c, h3, h4, h5, h6⟩ := h
  refine ⟨h1, fun k hk => by simpa using h2 k hk, none, 0, ?_, nil_sl _, by simp, fun p hp => by cases hp⟩
  have e1 := Joins.block_setCell (i := 0) h3 (.slice none 0 0)
  have e2 := Joins.block_setCell (i := 1) e1 (.bool true)
  simpa using e2
theorem InAt.frame {B : Nat} {X : Nat → Prop} {w : World} {b : Nat} {s : Option (List Nat)} (h : InAt B X w b s) (i : Nat) (u : Value) {v : World} (k : Fr X w v) : Fr X w (v.setCell ⟨b, i, none⟩ u) := k.set (p := ⟨b, i, none⟩) (fun _ => h.1) u

/-- The first n bytes, and what is behind them. -/
theorem Sl.front {w : World} {a : Option Addr} {c : Nat} {l : List Nat} (h : Sl w a c l) (n : Nat) : Sl w a c (l.take n) := by
  refine ⟨fun x hx => h.byte x (List.mem_of_mem_take hx), by have := h.len; rw [List.length_take]; omega, h.most, fun e => by rw [(h.none e).1]; exact ⟨List.take_nil, (h.none e).2⟩, ?_⟩
  rcases h.here with rfl | ⟨b, off, e, hb⟩
  · exact .inl List.take_nil
  · refine .inr ⟨b, off, e, fun i hi => ?_⟩
    rw [hb i (by rw [List.length_take] at hi; omega), List.getElem_take]
theorem Sl.back {w : World} {b off c : Nat} {l : List Nat} (h : Sl w (Option.some ⟨b, off, Option.none⟩) c l) (n : Nat) (hn : n ≤ l.length) : Sl w (Option.some ⟨b, off + n, Option.none⟩) (c - n) (l.drop n) := by
  refine ⟨fun x hx => h.byte x (List.mem_of_mem_drop hx), by have := h.len; rw [List.length_drop]; omega, by have := h.most; omega, fun e => (by cases e), ?_⟩
  rcases h.here with rfl | ⟨b', off', e, hb⟩
  · exact .inl List.drop_nil
  · cases e
    refine .inr ⟨b, off + n, rfl, fun i hi => ?_⟩
    rw [List.length_drop] at hi
    rw [show off + n + i = off + (n + i) by omega, hb (n + i) (by omega), List.getElem_drop]

set_option maxRecDepth 100000 in
theorem fail_any (B : Nat) (X : Nat → Prop) (w : World) (b : Nat) (s : Option (List Nat)) (h : InAt B X w b s) :
    Calls Tryz.prog 168 #[.pointer (some ⟨b, 0, none⟩)] w fun e w' => e = .returned (.tuple #[]) ∧ InAt B X w' b none ∧ Fr X w w' := by
  have HO := Lib.hid h.fail
  have HF := Lib.hid (h.frame 1 (.bool true) (h.frame 0 (.slice none 0 0) (Fr.refl X w)))
  obtain ⟨h1, h2, a, c, h3, h4, h5, h6⟩ := h
  have c0 := cell_of_block (i := 0) h3
  have c1 := cell_of_block (i := 1) h3
  have f0 := unfrozen_of_block h3 0
  have f1 := unfrozen_of_block h3 1
  simp only [List.getElem?_toArray, List.getElem?_cons_zero, List.getElem?_cons_succ] at c0 c1
  clear h1 h2 h3 h4 h5 h6
  go_enter Tryz.func168, Tryz.ntmps168
  go_wp2_with fail
  go_end0
  exact ⟨rfl, HO.out, HF.out⟩
set_option maxRecDepth 100000 in
theorem fail_nil (w : World) : Calls Tryz.prog 168 #[.pointer none] w fun e w' => e = .returned (.tuple #[]) ∧ w = w' := by
  go_enter Tryz.func168, Tryz.ntmps168
  go_wp2_with fail
  go_end0
  exact ⟨rfl, rfl⟩
set_option maxRecDepth 100000 in
theorem take_nil_in (w : World) (n : Int) : Calls Tryz.prog 122 #[.pointer none, .int .i64 n] w fun e w' => e = .returned (.slice none 0 0) ∧ w = w' := by
  go_enter Tryz.func122, Tryz.ntmps122
  go_wp2_with fail
  go_ret
  exact ⟨rfl, rfl⟩

theorem elem8 : Tryz.prog.elem 53 = 5 := by kernel_rfl
theorem und8 : Tryz.prog.underlying 53 = some (.slice (Tryz.prog.elem 53)) := by rw [elem8]; exact Tryz.underlying53
theorem cut_front {w : World} {a : Option Addr} {c : Nat} {l : List Nat} (h : Sl w a c l) (N : Nat) (hN : N ≤ l.length) (W : World) :
    (Instr.slice 53 (.slice a l.length c) none (some (.int .i64 (N : Int))) none).run Tryz.prog W = .ok (.slice a N c) W := by
  have hc := h.len
  rw [run_slice_h W 53 a l.length c und8 .i64 _ (by omega) (by omega), elem8, Tryz.sizeOf5]
  cases a with
  | none => simp [Result.andThen, sliced]
  | some ad => simp [Result.andThen, sliced, Addr.add]
theorem cut_back {w : World} {a : Option Addr} {c : Nat} {l : List Nat} (h : Sl w a c l) (N : Nat) (hN : N ≤ l.length) :
    ∃ a2, (∀ W, (Instr.slice 53 (.slice a l.length c) (some (.int .i64 (N : Int))) none none).run Tryz.prog W = .ok (.slice a2 (l.length - N) (c - N)) W) ∧ Sl w a2 (c - N) (l.drop N) ∧ ∀ p, a2 = some p → l.drop N ≠ [] → ∃ p0, a = some p0 ∧ p.block = p0.block := by
  have hc := h.len
  have hm := h.most
  have hr : ∀ W, (Instr.slice 53 (.slice a l.length c) (some (.int .i64 (N : Int))) none none).run Tryz.prog W = .ok (sliced a N l.length c 1) W := fun W => by
    rw [run_slice_l W 53 a l.length c und8 .i64 _ (by omega) (by omega), elem8, Tryz.sizeOf5]
    simp [Result.andThen]
  unfold sliced at hr
  rw [Nat.mul_one] at hr
  refine ⟨_, hr, ?_, ?_⟩
  · by_cases e : c = N
    · rw [if_pos e]
      have hd : l.drop N = [] := List.drop_eq_nil_of_le (by omega)
      rw [hd]
      exact ⟨by simp [IsByte], by simp, by omega, fun e' => ⟨rfl, by omega⟩, .inl rfl⟩
    · rw [if_neg e]
      by_cases hd : l.drop N = []
      · rw [hd]
        refine ⟨by simp [IsByte], by simp, by omega, fun e' => ?_, .inl rfl⟩
        cases a with
        | none => exact absurd (by have := (h.none rfl); have h2 := this.2; omega) e
        | some ad => simp at e'
      · have hl : N < l.length := by
          rcases Nat.lt_or_ge N l.length with h | h
          · exact h
          · exact absurd (List.drop_eq_nil_of_le h) hd
        obtain ⟨b, off, ea, hb⟩ := h.some hl
        subst ea
        have := h.back N hN
        have e2 : (⟨b, off, none⟩ : Addr).add N = ⟨b, off + N, none⟩ := by
          by_cases n0 : N = 0
          · subst n0; simp [Addr.add]
          · simp [Addr.add, n0]
        simp only [Option.map_some, e2]
        exact this
  · intro p hp hd
    have hl : N < l.length := by
      rcases Nat.lt_or_ge N l.length with h | h
      · exact h
      · exact absurd (List.drop_eq_nil_of_le h) hd
    obtain ⟨b, off, ea, hb⟩ := h.some hl
    subst ea
    rw [if_neg (by omega)] at hp
    have e2 : (⟨b, off, none⟩ : Addr).add N = ⟨b, off + N, none⟩ := by
      by_cases n0 : N = 0
      · subst n0; simp [Addr.add]
      · simp [Addr.add, n0]
    simp only [Option.map_some, e2] at hp
    cases hp
    exact ⟨_, rfl, rfl⟩

/-- What take answers: bytes in the In's own memory. -/
def TakePost (B : Nat) (X : Nat → Prop) (w : World) (b : Nat) (s : Option (List Nat)) (n : Int) (e : Ending) (w' : World) : Prop :=
  ∃ a c, e = .returned (.slice a (ansR s n).length c) ∧ Sl w' a c (ansR s n) ∧ InAt B X w' b (restR s n) ∧ Fr X w w'
set_option maxRecDepth 100000 in
set_option maxHeartbeats 1000000 in
theorem take_any (B : Nat) (X : Nat → Prop) (w : World) (b : Nat) (s : Option (List Nat)) (n : Int) (h : InAt B X w b s) (hn : i64R n) :
    Calls Tryz.prog 122 #[.pointer (some ⟨b, 0, none⟩), .int .i64 n] w (TakePost B X w b s n) := by
  have hn1 := hn.1
  have hn2 := hn.2
  have HFL := Lib.hid (fail_any B X w b s h)
  have H := Lib.hid h
  obtain ⟨h1, h2, a, c, h3, h4, h5, h6⟩ := h
  have c0 := cell_of_block (i := 0) h3
  have c1 := cell_of_block (i := 1) h3
  have f0 := unfrozen_of_block h3 0
  simp only [List.getElem?_toArray, List.getElem?_cons_zero, List.getElem?_cons_succ] at c0 c1
  by_cases g1 : n < 0
  · have HE : Hid (takeI s n = none) := by
      show _ = _
      unfold takeI
      cases s with
      | none => rfl
      | some l => simp only [Option.bind_some]; rw [if_neg (by omega)]
    have d1 : decide (n < 0) = true := decide_eq_true g1
    clear h1 h2 h3 h4 h5 h6
    go_enter Tryz.func122, Tryz.ntmps122
    go_wp2_with fail
    (with_reducible refine HFL.out.mono ?_)
    rintro e w' ⟨rfl, hi, hf⟩
    go_wp2_with fail
    go_ret
    unfold TakePost ansR restR
    rw [HE.out]
    exact ⟨none, 0, rfl, nil_sl _, hi, hf⟩
  · have d1 : decide (n < 0) = false := decide_eq_false g1
    obtain ⟨N, rfl⟩ : ∃ N : Nat, n = (N : Int) := ⟨n.toNat, by omega⟩
    obtain ⟨l, hl⟩ : ∃ l, l = s.getD [] := ⟨_, rfl⟩
    rw [← hl] at c0 h3 h4 h5 h6
    by_cases g2 : l.length < N
    · have HE : Hid (takeI s (N : Int) = none) := by
        show _ = _
        unfold takeI
        cases s with
        | none => rfl
        | some m =>
          simp only [Option.getD_some] at hl
          subst hl
          simp only [Option.bind_some]; rw [if_neg (by omega)]
      have d2 : decide ((l.length : Int) < (N : Int)) = true := decide_eq_true (by omega)
      clear h1 h2 h3 h4 h5 h6 hl
      go_enter Tryz.func122, Tryz.ntmps122
      go_wp2_with fail
      (with_reducible refine HFL.out.mono ?_)
      rintro e w' ⟨rfl, hi, hf⟩
      go_wp2_with fail
      go_ret
      unfold TakePost ansR restR
      rw [HE.out]
      exact ⟨none, 0, rfl, nil_sl _, hi, hf⟩
    · have d2 : decide ((l.length : Int) < (N : Int)) = false := decide_eq_false (by omega)
      have hNl : N ≤ l.length := by omega
      have hNz : (N : Int) ≤ (l.length : Int) := by omega
      obtain ⟨a2, hs2, k1, k2⟩ := cut_back h4 N hNl
      have hs1 := cut_front h4 N hNl
      have HT : Hid (∃ x r, takeI s (N : Int) = (if s.isNone then none else some (x, r)) ∧ x = l.take N ∧ r = l.drop N ∧ (s = none → N = 0 ∧ l = [])) := by
        cases s with
        | none =>
          simp only [Option.getD_none] at hl
          subst hl
          simp at hNl
          exact ⟨_, _, rfl, rfl, rfl, fun _ => ⟨hNl, rfl⟩⟩
        | some m =>
          simp only [Option.getD_some] at hl
          subst hl
          refine ⟨_, _, ?_, rfl, rfl, fun e => by cases e⟩
          simp [takeI, hNl]
      have HA : Hid (ansR s (N : Int) = l.take N ∧ (restR s (N : Int)).getD [] = l.drop N ∧ (restR s (N : Int)).isNone = s.isNone) := by
        obtain ⟨x, r, e1, e2, e3, e4⟩ := HT.out
        show _ ∧ _ ∧ _
        cases s with
        | none =>
          obtain ⟨q1, q2⟩ := e4 rfl
          subst q1 q2
          simp [ansR, restR, takeI]
        | some m =>
          simp only [Option.isNone_some] at e1
          simp [ansR, restR, e1, e2, e3]
      have HI : Hid (InAt B X (w.setCell ⟨b, 0, none⟩ (.slice a2 (l.length - N) (c - N))) b (restR s (N : Int)) ∧ Sl (w.setCell ⟨b, 0, none⟩ (.slice a2 (l.length - N) (c - N))) a c (l.take N)) := by
        obtain ⟨q1, q2, q3⟩ := HA.out
        have hf : ∀ k, k ≠ b → (w.setCell ⟨b, 0, none⟩ (.slice a2 (l.length - N) (c - N))).heap[k]? = w.heap[k]? := fun k hk => Below.heap_setCell _ _ _ _ hk
        refine ⟨⟨h1, fun k hk => by rw [World.size_setCell]; exact h2 k hk, a2, c - N, ?_, ?_, ?_, ?_⟩, ?_⟩
        · have e1 := Joins.block_setCell (i := 0) h3 (.slice a2 (l.length - N) (c - N))
          rw [q2, q3, List.length_drop]
          simpa using e1
        · rw [q2]
          exact k1.of_block fun p hp hd => by
            obtain ⟨p0, e0, e1⟩ := k2 p hp hd
            rw [e1]
            exact hf _ (h6 p0 e0 fun e => hd (by rw [e, List.drop_nil])).2
        · rw [q2, List.length_drop]; omega
        · rw [q2]
          intro p hp hd
          obtain ⟨p0, e0, e1⟩ := k2 p hp hd
          rw [e1]
          exact h6 p0 e0 fun e => hd (by rw [e, List.drop_nil])
        · exact (h4.front N).of_block fun p hp hd => hf _ (h6 p hp fun e => hd (by rw [e, List.take_nil])).2
      have HF : Hid (Fr X w (w.setCell ⟨b, 0, none⟩ (.slice a2 (l.length - N) (c - N)))) := H.out.frame 0 _ (Fr.refl _ _)
      clear h1 h2 h3 h4 h5 h6 hl k1 k2
      go_enter Tryz.func122, Tryz.ntmps122
      go_wp2_with fail
      go_ret
      obtain ⟨q1, q2, q3⟩ := HA.out
      refine ⟨a, c, ?_, by rw [q1]; exact HI.out.2, HI.out.1, HF.out⟩
      rw [q1, List.length_take, Nat.min_eq_left hNl]
      rfl
end Go.Proofs.YtfgaohilpbocbaaGreatDoor
end

section
namespace Go.Proofs.YtfgaohilpbocbaaGreatDoor
open Go.ChangeShapes Go.WideShapes Go.ChangeAt Go.RowKit Go.Joins
set_option linter.unusedVariables false

theorem inPost_of {B : Nat} {X : Nat → Prop} {w w' : World} {b : Nat} {s : Option (List Nat)} (h : InAt B X w' b s) (k : Fr X w w') : InPost InAt B X w b s w' := ⟨X, h, fun _ h => .inl h, k⟩
theorem takeI_len {s : Option (List Nat)} {n : Int} {x r : List Nat} (h : takeI s n = some (x, r)) : (x.length : Int) = n := by
  unfold takeI at h
  cases s with
  | none => cases h
  | some l =>
    simp only [Option.bind_some] at h
    split at h
    · rename_i hc
      cases h
      rw [List.length_take]
      omega
    · cases h
theorem ansR_len {s : Option (List Nat)} {n : Int} : (ansR s n).length = 0 ∨ ((ansR s n).length : Int) = n := by
  unfold ansR
  cases h : takeI s n with
  | none => exact .inl rfl
  | some p => exact .inr (takeI_len (r := p.2) (by rw [h]; rfl))

/-! A number. -/

set_option maxRecDepth 100000 in
theorem ofIntC (n : Nat) (h : n < 2 ^ 64) : (BitVec.ofInt 64 (n : Int)).toNat = n := by
  rw [BitVec.toNat_ofInt]
  omega
set_option maxRecDepth 100000 in
theorem or_byte (q x : Nat) (hx : x < 256) (hq : q * 256 + x < 281474976710656) : bits .or .i64 ((q : Int) * 256) (x : Int) = ((q * 256 + x : Nat) : Int) := by
  have e : ((q : Int) * 256) = ((q * 256 : Nat) : Int) := by omega
  rw [e]
  show IntKind.i64.wrap ((BitVec.ofInt 64 ((q * 256 : Nat) : Int) ||| BitVec.ofInt 64 (x : Int)).toNat : Int) = _
  rw [BitVec.toNat_or, ofIntC _ (by omega), ofIntC _ (by omega)]
  have h : q * 256 ||| x = q * 256 + x := by
    have := Nat.two_pow_add_eq_or_of_lt (i := 8) (b := x) (show x < 2 ^ 8 by omega) q
    simp only [Nat.reducePow] at this
    rw [Nat.mul_comm q 256]
    exact this.symm
  rw [h, IntKind.wrap_i64]
  omega

set_option maxRecDepth 100000 in
set_option maxHeartbeats 1000000 in
theorem inN_any (B : Nat) (X : Nat → Prop) (w : World) (b : Nat) (s : Option (List Nat)) (n : Int) (h : InAt B X w b s) (hn : i64R n) :
    Calls Tryz.prog 121 #[.pointer (some ⟨b, 0, none⟩), .int .i64 n] w fun e w' => e = .returned (.int .i64 (ansN s n : Int)) ∧ InAt B X w' b (restN s n) ∧ Fr X w w' := by
  have HZ := Lib.hid (sized_any n w hn)
  by_cases g : 1 ≤ n ∧ n ≤ 6
  · have HSZ : Hid (Calls Tryz.prog 167 #[.int .i64 n] w fun e w' => e = .returned (.bool true) ∧ w = w') := HZ.out.mono fun e w' h => ⟨by rw [h.1, decide_eq_true g], h.2⟩
    have HT := Lib.hid (take_any B X w b s n h hn)
    have HA : Hid (ansN s n = numN (ansR s n) ∧ restN s n = restR s n) := by
      unfold ansN restN ansR restR gN
      rw [if_pos g]
      cases takeI s n with
      | none => exact ⟨rfl, rfl⟩
      | some p => exact ⟨rfl, rfl⟩
    have hlen : (ansR s n).length ≤ 6 := by
      rcases ansR_len (s := s) (n := n) with h | h <;> omega
    obtain ⟨l, hl⟩ : ∃ l, l = ansR s n := ⟨_, rfl⟩
    have HL := Lib.hid hl
    unfold TakePost at HT
    rw [← hl] at HA HT hlen
    clear HZ g hl h
    go_enter Tryz.func121, Tryz.ntmps121
    go_wp2_with fail
    (with_reducible refine HSZ.out.mono ?_)
    rintro e w' ⟨rfl, rfl⟩
    go_wp2_with fail
    (with_reducible refine HT.out.mono ?_)
    rintro e w1 ⟨a, c, rfl, hsl, hin, hfr⟩
    have HS := Lib.hid hsl
    have HI := Lib.hid (And.intro hin hfr)
    have h0 : Hid (numN (l.take 0) = 0) := rfl
    have hbt : Hid (∀ k, k ≤ l.length → numN (l.take k) < 281474976710656) := fun k hk => by
      have h1 := numN_lt (l.take k) fun x hx => hsl.byte x (List.mem_of_mem_take hx)
      rw [List.length_take, Nat.min_eq_left hk] at h1
      have := pow6 (Nat.le_trans hk hlen)
      omega
    clear hsl hin hfr HT HSZ
    go_wp2_with fail
    go_loop [5, 17] (fun v i => ∃ k q : Nat, k ≤ l.length ∧ v = .int .i64 q ∧ i = .int .i64 k ∧ Hid (numN (l.take k) = q)) (fun _ i => l.length - (intOf i).toNat)
    case atStart => exact ⟨0, 0, by omega, rfl, rfl, h0⟩
    case round =>
      obtain ⟨k, q, hk, rfl, rfl, HQ⟩ := hrel
      clear h0
      by_cases hlt : k < l.length
      · obtain ⟨b', off, rfl, hb⟩ := HS.out.some hlt
        have hck := hb k hlt
        have hkz : (k : Int) < (l.length : Int) := by omega
        have hx : l[k] < 256 := HS.out.byte _ (List.getElem_mem hlt)
        have HN : Hid (numN (l.take (k + 1)) = q * 256 + l[k]) := by show _ = _; rw [numN_take hlt, HQ.out]
        have hq2 : q * 256 + l[k] < 281474976710656 := by rw [← HN.out]; exact hbt.out _ hlt
        obtain ⟨x, hxx⟩ : ∃ x, x = l[k] := ⟨_, rfl⟩
        rw [← hxx] at hck hx HN hq2
        clear hxx hb
        have hor := or_byte q x hx hq2
        go_wp2_with fail
        go_round
        case rel => exact ⟨k + 1, q * 256 + x, by omega, by first | rfl | go_num, by go_num, HN⟩
        case measure => simp [intOf]; omega
      · obtain rfl : k = l.length := by omega
        have HF : Hid (ansN s n = q ∧ restN s n = restR s n) := ⟨by rw [HA.out.1, ← HQ.out, List.take_length], HA.out.2⟩
        have hdd : decide ((l.length : Int) < (l.length : Int)) = false := by simp
        have hzz : ¬ (l.length : Int) < (l.length : Int) := by omega
        go_wp2_with fail
        go_ret
        exact ⟨by rw [HF.out.1]; rfl, by rw [HF.out.2]; exact HI.out⟩
  · have HSZ : Hid (Calls Tryz.prog 167 #[.int .i64 n] w fun e w' => e = .returned (.bool false) ∧ w = w') := HZ.out.mono fun e w' h => ⟨by rw [h.1, decide_eq_false g], h.2⟩
    have HFL := Lib.hid (fail_any B X w b s h)
    have HA : Hid (ansN s n = 0 ∧ restN s n = none) := by
      unfold ansN restN gN
      rw [if_neg g]
      exact ⟨rfl, rfl⟩
    clear HZ g h
    go_enter Tryz.func121, Tryz.ntmps121
    go_wp2_with fail
    (with_reducible refine HSZ.out.mono ?_)
    rintro e w' ⟨rfl, rfl⟩
    go_wp2_with fail
    (with_reducible refine HFL.out.mono ?_)
    rintro e w' ⟨rfl, hi, hf⟩
    go_wp2_with fail
    go_ret
    exact ⟨by rw [HA.out.1]; rfl, by rw [HA.out.2]; exact ⟨hi, hf⟩⟩

/-! Text and bytes. -/

theorem gT_eq (s : Option (List Nat)) : ansT s = ansR (restN s 1) (ansN s 1 : Nat) ∧ restT s = restR (restN s 1) (ansN s 1 : Nat) := by
  unfold ansT restT gT ansR restR restN ansN
  cases h : gN s 1 with
  | none => simp [takeI]
  | some p => simp
set_option maxRecDepth 100000 in
set_option maxHeartbeats 1000000 in
theorem inT_any (B : Nat) (X : Nat → Prop) (w : World) (b : Nat) (s : Option (List Nat)) (h : InAt B X w b s) :
    Calls Tryz.prog 123 #[.pointer (some ⟨b, 0, none⟩)] w fun e w' => e = .returned (.string (strOf (ansT s))) ∧ InAt B X w' b (restT s) ∧ Fr X w w' := by
  have HN := Lib.hid (inN_any B X w b s 1 h ⟨by omega, by omega⟩)
  have HG := Lib.hid (gT_eq s)
  have hlt : ansN s 1 < 281474976710656 := by
    unfold ansN gN
    rw [if_pos ⟨by omega, by omega⟩]
    cases h2 : takeI s 1 with
    | none => simp
    | some p =>
      obtain ⟨x, r⟩ := p
      have h3 := takeI_len h2
      have hby : ∀ y ∈ x, y < 256 := by
        obtain ⟨_, _, a, c, _, h4, _⟩ := h
        unfold takeI at h2
        cases s with
        | none => cases h2
        | some l =>
          simp only [Option.bind_some] at h2
          split at h2
          · cases h2
            exact fun y hy => h4.byte y (List.mem_of_mem_take hy)
          · cases h2
      have := numN_lt x hby
      have e : x.length = 1 := by omega
      rw [e] at this
      simp only [Option.map_some, Option.getD_some]
      omega
  obtain ⟨m, hm⟩ : ∃ m, m = ansN s 1 := ⟨_, rfl⟩
  rw [← hm] at HN HG hlt
  clear hm h
  go_enter Tryz.func123, Tryz.ntmps123
  go_wp2_with fail
  (with_reducible refine HN.out.mono ?_)
  rintro e w1 ⟨rfl, hin, hfr⟩
  have HT := Lib.hid (take_any B X w1 b (restN s 1) (m : Int) hin ⟨by omega, by omega⟩)
  have HF := Lib.hid hfr
  have hm64 : (m : Int) ≤ 9223372036854775807 := by omega
  clear hin hfr HN
  go_wp2_with fail
  (with_reducible refine HT.out.mono ?_)
  rintro e w2 ⟨a, c, rfl, hsl, hi, hf⟩
  have HI := Lib.hid (And.intro hi (HF.out.trans hf))
  rw [← HG.out.2] at HI
  obtain ⟨t, ht⟩ : ∃ t, t = ansR (restN s 1) (m : Int) := ⟨_, rfl⟩
  have HA : Hid (ansT s = t) := by rw [ht]; exact HG.out.1
  rw [← ht] at hsl ⊢
  have hcv := conv_sl w2 a c _ hsl
  clear hsl hi hf ht HG HF HT
  go_wp2_with fail
  go_ret
  exact ⟨by rw [HA.out]; rfl, HI.out⟩

set_option maxRecDepth 100000 in
theorem inR_any (B : Nat) (X : Nat → Prop) (w : World) (b : Nat) (s : Option (List Nat)) (n : Int) (h : InAt B X w b s) (hn : i64R n) :
    Calls Tryz.prog 86 #[.pointer (some ⟨b, 0, none⟩), .int .i64 n] w fun e w' => (∃ a c, e = .returned (.slice a (ansR s n).length c) ∧ Sl w' a c (ansR s n) ∧ ∀ p, a = some p → w.heap.size ≤ p.block) ∧ InAt B X w' b (restR s n) ∧ Fr X w w' := by
  have HT := Lib.hid (take_any B X w b s n h hn)
  have hlen : (ansR s n).length ≤ 100000 := by
    obtain ⟨_, _, a, c, _, _, h5, _⟩ := h
    unfold ansR takeI
    cases s with
    | none => simp
    | some l =>
      simp only [Option.bind_some, Option.getD_some] at h5 ⊢
      split
      · simp only [Option.map_some, Option.getD_some, List.length_take]; omega
      · simp
  obtain ⟨t, ht⟩ : ∃ t, t = ansR s n := ⟨_, rfl⟩
  unfold TakePost at HT
  rw [← ht] at HT hlen ⊢
  clear ht h hn
  go_enter Tryz.func86, Tryz.ntmps86
  go_wp2_with fail
  (with_reducible refine HT.out.mono ?_)
  rintro e w1 ⟨a, c, rfl, hsl, hi, hf⟩
  have HC := Lib.hid (clone_new a c t w1 hlen hsl)
  have HI := Lib.hid hi
  have HF := Lib.hid hf
  clear hsl hi hf HT
  go_wp2_with fail
  (with_reducible refine HC.out.mono ?_)
  rintro e w2 ⟨sa, sc, rfl, hsl, hnew, hbw⟩
  have HS := Lib.hid hsl
  have HNW : Hid (∀ p, sa = some p → w.heap.size ≤ p.block) := fun p hp => Nat.le_trans HF.out.size (hnew p hp)
  have HI2 := Lib.hid (And.intro (HI.out.keep (Fr.of_below (X := fun _ => False) hbw) fun _ _ h => h) (HF.out.later hbw))
  clear hsl hnew hbw HC
  go_wp2_with fail
  go_ret
  exact ⟨⟨sa, sc, rfl, HS.out, HNW.out⟩, HI2.out⟩

/-! Left, Bad, Done. -/

set_option maxRecDepth 100000 in
theorem inL_any (B : Nat) (X : Nat → Prop) (w : World) (b : Nat) (s : Option (List Nat)) (h : InAt B X w b s) :
    Calls Tryz.prog 124 #[.pointer (some ⟨b, 0, none⟩)] w fun e w' => e = .returned (.int .i64 (leftI s : Int)) ∧ w = w' := by
  obtain ⟨h1, h2, a, c, h3, h4, h5, h6⟩ := h
  have c0 := cell_of_block (i := 0) h3
  simp only [List.getElem?_toArray, List.getElem?_cons_zero] at c0
  obtain ⟨l, hl⟩ : ∃ l, l = s.getD [] := ⟨_, rfl⟩
  have HL : Hid (leftI s = l.length) := by unfold leftI; rw [hl]; rfl
  rw [← hl] at c0
  clear h1 h2 h3 h4 h5 h6 hl
  go_enter Tryz.func124, Tryz.ntmps124
  go_wp2_with fail
  go_ret
  exact ⟨by rw [HL.out]; rfl, rfl⟩
set_option maxRecDepth 100000 in
theorem inD_any (B : Nat) (X : Nat → Prop) (w : World) (b : Nat) (s : Option (List Nat)) (h : InAt B X w b s) :
    Calls Tryz.prog 127 #[.pointer (some ⟨b, 0, none⟩)] w fun e w' => e = .returned (.bool (decide (s = some []))) ∧ w = w' := by
  obtain ⟨h1, h2, a, c, h3, h4, h5, h6⟩ := h
  have c0 := cell_of_block (i := 0) h3
  have c1 := cell_of_block (i := 1) h3
  simp only [List.getElem?_toArray, List.getElem?_cons_zero, List.getElem?_cons_succ] at c0 c1
  clear h1 h2 h3 h4 h5 h6
  cases s with
  | none =>
    simp only [Option.isNone_none, Option.getD_none] at c0 c1
    have HR : Hid (decide ((none : Option (List Nat)) = some []) = false) := by show _ = _; simp
    go_enter Tryz.func127, Tryz.ntmps127
    go_wp2_with fail
    go_ret
    exact ⟨ret_bool HR.out.symm, rfl⟩
  | some l =>
    simp only [Option.isNone_some, Option.getD_some] at c0 c1
    have HR : Hid (decide (some l = some []) = ((l.length : Int) == 0)) := by
      show _ = _
      cases l with
      | nil => simp
      | cons x l =>
        have : (((x :: l).length : Nat) : Int) ≠ 0 := by rw [List.length_cons]; omega
        rw [beq_eq_false_iff_ne.2 this]
        simp
    go_enter Tryz.func127, Tryz.ntmps127
    go_wp2_with fail
    go_ret
    exact ⟨ret_bool HR.out.symm, rfl⟩

/-! A new one. -/

set_option maxRecDepth 100000 in
theorem inNew_any (w : World) (a : Option Addr) (c : Nat) (l : List Nat) (hs : Sl w a c l) (hl : l.length ≤ 60000) :
    Calls Tryz.prog 85 #[.slice a l.length c] w fun e w' => ∃ b X, e = .returned (.pointer (some ⟨b, 0, none⟩)) ∧ InAt w.heap.size X w' b (some l) ∧ Below w.heap.size w w' := by
  have HC := Lib.hid (clone_new a c l w (by omega) hs)
  have hlm := hs.lt
  clear hs
  go_enter Tryz.func85, Tryz.ntmps85
  go_wp2_with fail
  (with_reducible refine HC.out.mono ?_)
  rintro e w1 ⟨sa, sc, rfl, hsl, hnew, hbw⟩
  have HS := Lib.hid hsl
  have HB := Lib.hid hbw
  have HN := Lib.hid hnew
  clear hsl hbw hnew HC
  go_wp2_with fail
  go_ret
  have e0 : (w1.alloc (.cells #[.slice sa l.length sc, .bool false] 219)).heap[w1.heap.size]? = some (.cells #[.slice sa l.length sc, .bool false] 219 (0, 0)) := heap_alloc_last w1 _
  have hsz : w1.heap.size < (w1.alloc (.cells #[.slice sa l.length sc, .bool false] 219)).heap.size := (Array.getElem?_eq_some_iff.1 e0).1
  have hb1 := HB.out.size
  have ha : Below w1.heap.size w1 (w1.alloc (.cells #[.slice sa l.length sc, .bool false] 219)) := (Below.refl _ _).alloc (Nat.le_refl _) _
  refine ⟨w1.heap.size, fun k => k = w1.heap.size ∨ ∃ p, sa = some p ∧ l ≠ [] ∧ k = p.block, rfl, ⟨.inl rfl, fun k hk => ?_, sa, sc, e0, HS.out.below ha, hl, fun p hp hne => ⟨.inr ⟨p, hp, hne, rfl⟩, fun e => ?_⟩⟩, HB.out.trans (ha.mono hb1)⟩
  · rcases hk with rfl | ⟨p, hp, hne, rfl⟩
    · exact ⟨hb1, hsz⟩
    · exact ⟨HN.out p hp, Nat.lt_trans (HS.out.blk p hp hne) hsz⟩
  · have := HS.out.blk p hp hne
    omega

/-! Of nothing. -/

set_option maxRecDepth 100000 in
theorem inN_nil (w : World) (n : Int) (hn : i64R n) : Calls Tryz.prog 121 #[.pointer none, .int .i64 n] w fun e w' => e = .returned (.int .i64 0) ∧ w = w' := by
  have HZ := Lib.hid (sized_any n w hn)
  have HF := Lib.hid (fail_nil w)
  have HT := Lib.hid (take_nil_in w n)
  by_cases g : 1 ≤ n ∧ n ≤ 6
  · have HSZ : Hid (Calls Tryz.prog 167 #[.int .i64 n] w fun e w' => e = .returned (.bool true) ∧ w = w') := HZ.out.mono fun e w' h => ⟨by rw [h.1, decide_eq_true g], h.2⟩
    clear HZ g
    go_enter Tryz.func121, Tryz.ntmps121
    go_wp2_with fail
    (with_reducible refine HSZ.out.mono ?_)
    rintro e w' ⟨rfl, rfl⟩
    go_wp2_with fail
    (with_reducible refine HT.out.mono ?_)
    rintro e w' ⟨rfl, rfl⟩
    go_wp2_with fail
    go_loop [5, 17] (fun v i => v = .int .i64 0 ∧ i = .int .i64 0) (fun _ _ => 0)
    case atStart => exact ⟨rfl, rfl⟩
    case round =>
      obtain ⟨rfl, rfl⟩ := hrel
      go_wp2_with fail
      go_ret
      exact ⟨rfl, rfl⟩
  · have HSZ : Hid (Calls Tryz.prog 167 #[.int .i64 n] w fun e w' => e = .returned (.bool false) ∧ w = w') := HZ.out.mono fun e w' h => ⟨by rw [h.1, decide_eq_false g], h.2⟩
    clear HZ g
    go_enter Tryz.func121, Tryz.ntmps121
    go_wp2_with fail
    (with_reducible refine HSZ.out.mono ?_)
    rintro e w' ⟨rfl, rfl⟩
    go_wp2_with fail
    (with_reducible refine HF.out.mono ?_)
    rintro e w' ⟨rfl, rfl⟩
    go_wp2_with fail
    go_ret
    exact ⟨rfl, rfl⟩
set_option maxRecDepth 100000 in
theorem inT_nil (w : World) : Calls Tryz.prog 123 #[.pointer none] w fun e w' => e = .returned (.string (strOf [])) ∧ Below w.heap.size w w' := by
  have HN := Lib.hid (inN_nil w 1 ⟨by omega, by omega⟩)
  have HT := Lib.hid (take_nil_in w 0)
  obtain ⟨z, hz⟩ : ∃ z, z = strOf [] := ⟨_, rfl⟩
  have hcv : (convert 53 9 (.slice none 0 0)).run Tryz.prog w = .ok (.string z) w := by rw [hz]; exact conv_sl w none 0 [] (nil_sl w)
  rw [← hz]
  clear hz
  go_enter Tryz.func123, Tryz.ntmps123
  go_wp2_with fail
  (with_reducible refine HN.out.mono ?_)
  rintro e w' ⟨rfl, rfl⟩
  go_wp2_with fail
  (with_reducible refine HT.out.mono ?_)
  rintro e w' ⟨rfl, rfl⟩
  go_wp2_with fail
  go_ret
  exact ⟨rfl, Below.refl _ _⟩
set_option maxRecDepth 100000 in
theorem inR_nil (w : World) (n : Int) (hn : i64R n) : Calls Tryz.prog 86 #[.pointer none, .int .i64 n] w fun e w' => ∃ a c, e = .returned (.slice a 0 c) ∧ Below w.heap.size w w' := by
  have HT := Lib.hid (take_nil_in w n)
  have HC := Lib.hid (clone_new none 0 [] w (by simp) (nil_sl w))
  clear hn
  go_enter Tryz.func86, Tryz.ntmps86
  go_wp2_with fail
  (with_reducible refine HT.out.mono ?_)
  rintro e w' ⟨rfl, rfl⟩
  go_wp2_with fail
  refine HC.out.mono ?_
  rintro e w1 ⟨sa, sc, rfl, hsl, hnew, hbw⟩
  have HB := Lib.hid hbw
  clear hsl hnew hbw HC
  go_wp2_with fail
  go_ret
  exact ⟨sa, sc, rfl, HB.out⟩
set_option maxRecDepth 100000 in
theorem inL_nil (w : World) : Calls Tryz.prog 124 #[.pointer none] w fun e w' => e = .returned (.int .i64 0) ∧ Below w.heap.size w w' := by
  go_enter Tryz.func124, Tryz.ntmps124
  go_wp2_with fail
  go_ret
  exact ⟨rfl, Below.refl _ _⟩
set_option maxRecDepth 100000 in
theorem inD_nil (w : World) : Calls Tryz.prog 127 #[.pointer none] w fun e w' => e = .returned (.bool false) ∧ Below w.heap.size w w' := by
  go_enter Tryz.func127, Tryz.ntmps127
  go_wp2_with fail
  go_ret
  exact ⟨rfl, Below.refl _ _⟩
end Go.Proofs.YtfgaohilpbocbaaGreatDoor
end

section
namespace Go.Proofs.YtfgaohilpbocbaaGreatDoor
open Go.ChangeShapes Go.WideShapes Go.ChangeAt Go.RowKit Go.Joins
set_option linter.unusedVariables false

set_option maxRecDepth 100000 in
theorem equal_sl (a : Option Addr) (c : Nat) (l : List Nat) (a2 : Option Addr) (c2 : Nat) (m : List Nat) (w : World) (h : Sl w a c l) (h2 : Sl w a2 c2 m) :
    Calls Tryz.prog 74 #[.slice a l.length c, .slice a2 m.length c2] w fun e w' => e = .returned (.bool (decide (l = m))) ∧ w = w' := by
  have e1 := conv_sl w a c l h
  have e2 := conv_sl w a2 c2 m h2
  have HR := Lib.hid (str_beq h.byte h2.byte)
  clear h h2
  go_enter Tryz.func74, Tryz.ntmps74
  go_wp2_with fail
  go_ret
  exact ⟨ret_bool HR.out, rfl⟩
set_option maxRecDepth 100000 in
theorem prefix_any (a : Option Addr) (c : Nat) (l : List Nat) (a2 : Option Addr) (c2 : Nat) (m : List Nat) (w : World) (h : Sl w a c l) (h2 : Sl w a2 c2 m) (hm : m.length ≤ l.length) :
    Calls Tryz.prog 120 #[.slice a l.length c, .slice a2 m.length c2] w fun e w' => e = .returned (.bool (decide (l.take m.length = m))) ∧ w = w' := by
  have hf := h.front m.length
  have HE := Lib.hid (equal_sl a c (l.take m.length) a2 c2 m w hf h2)
  rw [List.length_take, Nat.min_eq_left hm] at HE
  have hc := cut_front h m.length hm
  have hl1 := h.lt
  have hl2 := h2.lt
  have d1 : decide ((m.length : Int) ≤ (l.length : Int)) = true := decide_eq_true (by omega)
  have hmz : (m.length : Int) ≤ (l.length : Int) := by omega
  obtain ⟨R, hR⟩ : ∃ R, R = decide (l.take m.length = m) := ⟨_, rfl⟩
  rw [← hR] at HE ⊢
  clear h h2 hf hR
  go_enter Tryz.func120, Tryz.ntmps120
  go_wp2_with fail
  (with_reducible refine HE.out.mono ?_)
  rintro e w' ⟨rfl, rfl⟩
  go_wp2_with fail
  go_ret
  exact ⟨rfl, rfl⟩

/-- b[i:j]. -/
theorem cut_mid {w : World} {b off c : Nat} {l : List Nat} (h : Sl w (some ⟨b, off, none⟩) c l) (i j : Nat) (hij : i ≤ j) (hj : j ≤ l.length) (hi : i < l.length) (I J : Int) (hI : I = (i : Int)) (hJ : J = (j : Int)) :
    (∀ W, (Instr.slice 53 (.slice (some ⟨b, off, none⟩) l.length c) (some (.int .i64 I)) (some (.int .i64 J)) none).run Tryz.prog W = .ok (.slice (some ⟨b, off + i, none⟩) (j - i) (c - i)) W) ∧ Sl w (some ⟨b, off + i, none⟩) (c - i) ((l.drop i).take (j - i)) := by
  subst hI hJ
  have hc := h.len
  refine ⟨fun W => ?_, (h.back i (by omega)).front (j - i)⟩
  rw [run_slice_lh W 53 (some ⟨b, off, none⟩) l.length c und8 .i64 .i64 _ _ (by omega) (by omega) (by omega), elem8, Tryz.sizeOf5]
  have e2 : (⟨b, off, none⟩ : Addr).add i = ⟨b, off + i, none⟩ := by
    by_cases n0 : i = 0
    · subst n0; simp [Addr.add]
    · simp [Addr.add, n0]
  simp [Result.andThen, sliced, show ¬ (c = i) by omega, e2]
theorem mid_len {l : List Nat} {i j : Nat} (hj : j ≤ l.length) : ((l.drop i).take (j - i)).length = j - i := by rw [List.length_take, List.length_drop]; omega

set_option maxRecDepth 1000000 in
set_option maxHeartbeats 2000000 in
theorem claimed_any (a : Option Addr) (c : Nat) (l : List Nat) (w : World) (hs : Sl w a c l) (hl : l.length ≤ 60000) :
    Calls Tryz.prog 84 #[.slice a l.length c] w fun e w' => e = .returned (.int .i64 (claimN l : Int)) ∧ Below w.heap.size w w' := by
  have mixed : Tryz.prog.follows .mixedOrders = true := by kernel_rfl
  have hlm := hs.lt
  have hcm : c ≤ 9223372036854775807 := by have := hs.most; unfold maxLen at this; omega
  by_cases g : l.length ≤ 48
  · have d1 : decide ((l.length : Int) ≤ 48) = true := decide_eq_true (by omega)
    have HR : Hid (claimN l = 0) := by show _ = _; unfold claimN; rw [if_neg (by omega)]
    clear hs
    go_enter Tryz.func84, Tryz.ntmps84
    go_wp2_with fail
    go_ret
    exact ⟨by rw [HR.out]; rfl, Below.refl _ _⟩
  · have d1 : decide ((l.length : Int) ≤ 48) = false := decide_eq_false (by omega)
    obtain ⟨b, off, rfl, _⟩ := hs.some (k := 0) (by omega)
    have HS := Lib.hid hs
    have hcc := Go.Lib.run_convert_bytes_const (P := Tryz.prog) w 53 5 #[.int .u8 71, .int .u8 89, .int .u8 83, .int .u8 49] 4 4 Tryz.underlying53 Tryz.underlying5
    have hG : (w.alloc (.cells #[.int .u8 71, .int .u8 89, .int .u8 83, .int .u8 49] 5 (4, 5))).heap[w.heap.size]? = some (.cells #[.int .u8 71, .int .u8 89, .int .u8 83, .int .u8 49] 5 (4, 5)) := heap_alloc_last w _
    have HB1 : Hid (Below w.heap.size w (w.alloc (.cells #[.int .u8 71, .int .u8 89, .int .u8 83, .int .u8 49] 5 (4, 5)))) := (Below.refl _ _).alloc (Nat.le_refl _) _
    have HG : Hid (Sl (w.alloc (.cells #[.int .u8 71, .int .u8 89, .int .u8 83, .int .u8 49] 5 (4, 5))) (some ⟨w.heap.size, 0, none⟩) 4 [71, 89, 83, 49]) := by
      refine ⟨by intro x hx; simp at hx; omega, by simp, by unfold maxLen; simp, fun e => (by cases e), .inr ⟨w.heap.size, 0, rfl, fun j hj => ?_⟩⟩
      have hj4 : j < 4 := hj
      rw [cell_of_row _ _ _ _ _ _ hG]
      match j, hj4 with
      | 0, _ => rfl
      | 1, _ => rfl
      | 2, _ => rfl
      | 3, _ => rfl
    have HP : Hid (Calls Tryz.prog 120 #[.slice (some ⟨b, off, none⟩) l.length c, .slice (some ⟨w.heap.size, 0, none⟩) 4 4] (w.alloc (.cells #[.int .u8 71, .int .u8 89, .int .u8 83, .int .u8 49] 5 (4, 5))) fun e w' => e = .returned (.bool (decide (l.take 4 = [71, 89, 83, 49]))) ∧ (w.alloc (.cells #[.int .u8 71, .int .u8 89, .int .u8 83, .int .u8 49] 5 (4, 5))) = w') :=
      prefix_any _ c l _ 4 [71, 89, 83, 49] _ (HS.out.below HB1.out) HG.out (by simp only [List.length_cons, List.length_nil]; omega)
    obtain ⟨w1, hw1⟩ : ∃ w1, w1 = w.alloc (.cells #[.int .u8 71, .int .u8 89, .int .u8 83, .int .u8 49] 5 (4, 5)) := ⟨_, rfl⟩
    have HS1 : Hid (Sl w1 (some ⟨b, off, none⟩) c l) := by show Sl _ _ _ _; rw [hw1]; exact HS.out.below HB1.out
    have HCLQ : Hid (¬ l.take 4 = [71, 89, 83, 49] → claimN l = 0) := fun q => by unfold claimN; rw [if_neg (fun h => q h.2.1)]
    obtain ⟨R, hR⟩ : ∃ R, R = claimN l := ⟨_, rfl⟩
    rw [← hR] at HCLQ ⊢
    have HRE := Lib.hid hR
    have hw1 := Lib.hid hw1
    clear hs hG HG HS hR
    by_cases q : l.take 4 = [71, 89, 83, 49]
    · rw [decide_eq_true q] at HP
      go_enter Tryz.func84, Tryz.ntmps84
      go_upto_region 3 with (go_at_call 120; (with_reducible refine HP.out.mono ?_); rintro e w' ⟨rfl, rfl⟩)
      clear hcc HP
      obtain ⟨k1, k2⟩ := cut_mid HS1.out 4 48 (by omega) (by omega) (by omega) 4 48 rfl rfl
      have k1' : ∀ W, (Instr.slice 53 (.slice (some ⟨b, off, none⟩) l.length c) (some (.int .i64 4)) (some (.int .i64 48)) none).run Tryz.prog W = .ok (.slice (some ⟨b, off + 4, none⟩) 44 (c - 4)) W := k1
      have hml : ((l.drop 4).take 44).length = 44 := by rw [List.length_take, List.length_drop]; omega
      have HN : Hid (Calls Tryz.prog 85 #[.slice (some ⟨b, off + 4, none⟩) 44 (c - 4)] w1 fun e w' => ∃ b X, e = .returned (.pointer (some ⟨b, 0, none⟩)) ∧ InAt w1.heap.size X w' b (some ((l.drop 4).take 44)) ∧ Below w1.heap.size w1 w') := by
        have h := inNew_any w1 (some ⟨b, off + 4, none⟩) (c - 4) _ k2 (by rw [show 48 - 4 = 44 by rfl, hml]; omega)
        rw [show 48 - 4 = 44 by rfl, hml] at h
        exact h
      have HA : Hid (ansN (some ((l.drop 4).take 44)) 4 = saidN l) := by
        have h1 : ((l.drop 4).take 44) = ((l.drop 4).take 4) ++ (((l.drop 4).take 44).drop 4) := by
          have := List.take_append_drop 4 ((l.drop 4).take 44)
          rw [List.take_take] at this
          exact this.symm
        have h2 : ((l.drop 4).take 4).length = 4 := by rw [List.length_take, List.length_drop]; omega
        show _ = _
        unfold ansN gN
        rw [if_pos ⟨by omega, by omega⟩, h1]
        have := take_app ((l.drop 4).take 4) (((l.drop 4).take 44).drop 4)
        rw [h2] at this
        rw [show (4 : Int) = ((4 : Nat) : Int) by rfl, this]
        rfl
      have hsl : saidN l < 4294967296 := by
        unfold saidN
        exact num_lt (n := 4) _ (fun y hy => HS1.out.byte y (List.mem_of_mem_drop (List.mem_of_mem_take hy))) (by rw [List.length_take, List.length_drop]; omega)
      have HCL : Hid (claimN l = if 48 < saidN l ∧ saidN l ≤ l.length then saidN l else 0) := by
        show _ = _
        unfold claimN
        by_cases z : 48 < saidN l ∧ saidN l ≤ l.length
        · rw [if_pos z, if_pos ⟨by omega, q, z⟩]
        · rw [if_neg z, if_neg (fun h => z h.2.2)]
      obtain ⟨S, hS⟩ : ∃ S, S = saidN l := ⟨_, rfl⟩
      rw [← hS] at HA HCL hsl
      rw [← HRE.out] at HCL
      obtain ⟨M, hM⟩ : ∃ M, M = (l.drop 4).take 44 := ⟨_, rfl⟩
      rw [← hM] at HA HN
      clear k1 k2 hml hS hM q HS1 HCLQ HRE
      have hwe := hw1.out
      subst hwe
      go_wp2_with fail
      (with_reducible refine HN.out.mono ?_)
      rintro e w2 ⟨ib, X, rfl, hin, hbw⟩
      have HI := Lib.hid (inN_any _ X w2 ib _ 4 hin ⟨by omega, by omega⟩)
      have HB2 := Lib.hid hbw
      have HX := Lib.hid hin.2.1
      rw [HA.out] at HI
      clear hin hbw HN HA
      go_wp2_with fail
      (with_reducible refine HI.out.mono ?_)
      rintro e w3 ⟨rfl, _, hfr⟩
      have HB3 : Hid (Below w.heap.size w w3) := HB1.out.trans ((HB2.out.trans (hfr.below HB2.out.size fun k hk hx => by have := (HX.out k hx).1; omega)).mono HB1.out.size)
      clear hfr HI HX HB2
      go_upto_region 4 with fail
      have HCL2 := HCL.out
      by_cases z : 48 < S
      · have d2 : decide ((S : Int) ≤ 48) = false := decide_eq_false (by omega)
        by_cases z2 : S ≤ l.length
        · have d3 : decide ((l.length : Int) < (S : Int)) = false := decide_eq_false (by omega)
          have HR2 : Hid (R = S) := by show _ = _; rw [HCL2, if_pos ⟨z, z2⟩]
          clear HCL HCL2
          go_wp2_with fail
          go_ret
          exact ⟨by rw [HR2.out]; rfl, HB3.out⟩
        · have d3 : decide ((l.length : Int) < (S : Int)) = true := decide_eq_true (by omega)
          have HR2 : Hid (R = 0) := by show _ = _; rw [HCL2, if_neg (fun h => z2 h.2)]
          clear HCL HCL2
          go_wp2_with fail
          go_ret
          exact ⟨by rw [HR2.out]; rfl, HB3.out⟩
      · have d2 : decide ((S : Int) ≤ 48) = true := decide_eq_true (by omega)
        have HR2 : Hid (R = 0) := by show _ = _; rw [HCL2, if_neg (fun h => z h.1)]
        clear HCL HCL2
        go_wp2_with fail
        go_ret
        exact ⟨by rw [HR2.out]; rfl, HB3.out⟩
    · rw [decide_eq_false q] at HP
      have HR := Lib.hid (HCLQ.out q)
      clear q HS1 HCLQ HRE hw1
      go_enter Tryz.func84, Tryz.ntmps84
      go_wp2_with fail
      (with_reducible refine HP.out.mono ?_)
      rintro e w' ⟨rfl, rfl⟩
      go_wp2_with fail
      go_ret
      exact ⟨by rw [HR.out]; rfl, HB1.out⟩
end Go.Proofs.YtfgaohilpbocbaaGreatDoor
end
