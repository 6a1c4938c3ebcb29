/-
  Package packet: Find.
-/
import Derived.Test.YthpfjgbhacdpgaaDoorMg24
import Derived.Test.YthpfjgbhacdpgaaDoorPlTM
namespace Go.Proofs.YthpfjgbhacdpgaaDoor
open Go.ChangeShapes Go.WideShapes Go.ChangeAt Go.RowKit Go.Joins
set_option linter.unusedVariables false

def FindPost (l : List Nat) (w : World) (e : Ending) (w' : World) : Prop := ∃ v F, e = .returned v ∧ FSt w w' v F ∧ Finds l 0 (F.map Fnd.pair) ∧ F.length ≤ l.length

set_option maxRecDepth 1000000 in
set_option maxHeartbeats 4000000 in
theorem find_any (a : Option Addr) (c : Nat) (l : List Nat) (w : World) (hs : Sl w a c l) (hl : l.length ≤ 60000) (ht : Tabs w) :
    Calls Tryd.prog 15 #[.slice a l.length c] w (FindPost l w) := by
  have mixed : Tryd.prog.follows .mixedOrders = true := by kernel_rfl
  have hlm := hs.lt
  have hcm : c ≤ 9223372036854775807 := by have := hs.most; unfold maxLen at this; omega
  have HS := Lib.hid hs
  have HT := Lib.hid ht
  clear hs ht
  go_enter Tryd.func15, Tryd.ntmps15
  go_wp2_with fail
  go_loopw [3, 4] (fun v p wq => ∃ (k : Nat) (F : List Fnd), k ≤ l.length ∧ F.length ≤ k ∧ p = .int .i64 (k : Int) ∧ Hid (FSt w wq v F) ∧ Hid (∀ fs, Finds l k fs → Finds l 0 (F.map Fnd.pair ++ fs))) (fun _ p _ => l.length - (intOf p).toNat)
  case atStart => exact ⟨0, [], by omega, by simp, rfl, ⟨OwnF.nil _ _, Below.refl _ _, fun f hf => by cases hf⟩, fun fs h => h⟩
  case round =>
    obtain ⟨k, F, hk, hFk, rfl, HF, HG⟩ := hrel
    by_cases hlt : k < l.length
    · have hkz : (k : Int) < (l.length : Int) := by omega
      have hkz2 : (k : Int) ≤ (l.length : Int) := by omega
      have HSr := Lib.hid (HS.out.below HF.out.below)
      obtain ⟨a2, hr2, hs2, -⟩ := cut_back HSr.out k hk
      have HBY : Hid (IsByte (l.drop k)) := hs2.byte
      have HD := Lib.hid (decode_new a2 (c - k) (l.drop k) _ hs2 (by rw [List.length_drop]; omega) (HT.out.below HF.out.below))
      rw [List.length_drop] at HD
      clear hs2 HSr
      cases hd : decN (l.drop k) with
      | ok q n =>
        have hbg := dec_ok HBY.out hd
        obtain ⟨n1, n2, n3⟩ := begins_le hbg
        rw [List.length_drop] at n1
        have HND : Hid (decN (l.drop k) = .ok q n) := hd
        have HD2 : Hid (Calls Tryd.prog 12 #[.slice a2 (l.length - k) (c - k)] wr fun e w' => (∃ sa sc da dc, e = .returned (.tuple #[.agg (rowArr 51 (pkV q sa sc da dc)), .int .i64 (n : Int), .int .i64 0]) ∧ PkAt w' q sa sc da dc ∧ (∀ p, sa = some p → wr.heap.size ≤ p.block) ∧ ∀ p, da = some p → wr.heap.size ≤ p.block) ∧ Below wr.heap.size wr w') := HD.out.mono fun e w' h => by
          unfold DecNew at h
          rw [hd] at h
          exact h
        clear HD hd hbg n3
        go_wp2_with fail
        (with_reducible refine HD2.out.mono ?_)
        rintro e w2 ⟨⟨sa, sc, da, dc, rfl, hpk, hsa, hda⟩, b2⟩
        have HB2 := Lib.hid b2
        have HPK2 := Lib.hid hpk
        have HAP : Hid (Apart u3 ⟨k, q, sa, sc, da, dc⟩) := ⟨fun _ p hp hv => by have h1 := (HF.out.own.at hv).2; have h2 := hsa p hp; omega, fun _ p hp hv => by have h1 := (HF.out.own.at hv).2; have h2 := hda p hp; omega⟩
        obtain ⟨AQ, hAQ⟩ : ∃ AQ, AQ = rowArr 51 (pkV q sa sc da dc) := ⟨_, rfl⟩
        rw [← hAQ]
        have HAQ := Lib.hid hAQ
        have HQ1 : Hid (AQ.all (·.oneCell') = true) := by show _ = _; rw [hAQ]; exact oneCell_pk _ _ _ _ _
        have HQS : Hid (AQ.size = 51) := by show _ = _; rw [hAQ, rowArr_size]
        have HALL : Hid (∀ c : Array Value, (w2.alloc (.cells c 30)).heap[w2.heap.size]? = some (.cells c 30 (0, 0))) := fun c => heap_alloc_last w2 _
        have HALB : Hid (∀ c : Array Value, Below w2.heap.size w2 (w2.alloc (.cells c 30))) := fun c => (Below.refl _ _).alloc (Nat.le_refl _) _
        clear HD2 b2 hpk hAQ hsa hda
        go_upto_region 7 with (refine wpList_store_arr rfl 30 _ _ rfl w2.heap.size AQ rfl rfl 30 _ (HALL.out _) (by rw [HQS.out]; kernel_rfl) (by rw [HQS.out]; rfl) HQ1.out ?_; intro w3 HC3 hf3; have HB23 : Hid (Below w2.heap.size w2 w3) := (HALB.out _).trans (hf3.out.below (HALB.out _).size (fun k hk e => by omega)); clear hf3 HALL HALB)
        obtain ⟨pb, hpb⟩ : ∃ pb, pb = w2.heap.size := ⟨_, rfl⟩
        rw [← hpb] at HC3 ⊢
        have HF3 : Hid (FSt w w3 u3 F) := HF.out.later (HB2.out.trans (HB23.out.mono HB2.out.size))
        obtain ⟨FA, hFA⟩ : ∃ FA, FA = rowArr 52 (fndV ⟨k, q, sa, sc, da, dc⟩) := ⟨_, rfl⟩
        have HFA := Lib.hid hFA
        have HBA : Hid (Below w3.heap.size w3 (w3.alloc (.cells FA 47))) := (Below.refl _ _).alloc (Nat.le_refl _) _
        have HPK4 := Lib.hid ((HPK2.out.below HB23.out).below HBA.out)
        have HF4 := Lib.hid (HF3.out.later HBA.out)
        have HCF : Hid (∀ j, j < 52 → (w3.alloc (.cells FA 47)).cell? ⟨w3.heap.size, j, none⟩ = some (fndV ⟨k, q, sa, sc, da, dc⟩ j)) := fun j hj => by
          rw [hFA]
          exact (Row.of_whole (heap_alloc_last w3 _)).cell j hj
        have HG3 : Hid (∀ fs, Finds l (k + n) fs → Finds l 0 ((F ++ [(⟨k, q, sa, sc, da, dc⟩ : Fnd)]).map Fnd.pair ++ fs)) := fun fs h => by
          rw [List.map_append, List.append_assoc]
          exact HG.out _ (.here hlt HND.out h)
        clear hFA hpb HPK2 HB23 HB2 HF HG HND
        go_wp2_with (first
          | (refine wpList_load_row rfl 30 _ rfl pb rfl 30 AQ (0, 0) _ HC3.out Tryd.underlying30 rfl (by rw [HQS.out]; kernel_rfl) ?_)
          | (refine Sha.wp_build_as rfl 47 _ rfl FA ?_ ?_; (rw [HFA.out, HAQ.out]; kernel_rfl))
          | (refine Go.Great.wpList_buildSliceTo rfl 44 47 1 _ rfl w3.heap.size rfl (some 28) rfl Tryd.underlying44 FA ?_ ?_; (rw [HFA.out]; kernel_rfl))
          | (at_builtin; go_loud (refine wpList_push_f _ rfl _ _ rfl w.heap.size u3 F rfl HF4.out.own w3.heap.size rfl ⟨k, q, sa, sc, da, dc⟩ HCF.out HF4.out.below.size (by omega) ?_; intro v5 w5 HO5 hg5 he5)))
        have HF5 := Lib.hid (HF4.out.push ⟨k, q, sa, sc, da, dc⟩ HPK4.out HAP.out HO5.out hg5.out he5.out)
        clear HO5 hg5 he5 HF4 HF3 HCF HPK4 HAP
        go_roundw
        case rel => exact ⟨k + n, F ++ [⟨k, q, sa, sc, da, dc⟩], by omega, by rw [List.length_append]; simp; omega, by go_num, HF5, HG3⟩
        case measure => simp [intOf]; omega
      | form =>
        have HND : Hid (∀ p n, decN (l.drop k) ≠ .ok p n) := fun p n h => by rw [hd] at h; cases h
        obtain ⟨ZA, hZA⟩ : ∃ ZA, ZA = rowArr 51 (pkV zPk none 0 none 0) := ⟨_, rfl⟩
        have HQ1 : Hid (ZA.all (·.oneCell') = true) := by show _ = _; rw [hZA]; exact oneCell_pk _ _ _ _ _
        have HQS : Hid (ZA.size = 51) := by show _ = _; rw [hZA, rowArr_size]
        have HD2 : Hid (Calls Tryd.prog 12 #[.slice a2 (l.length - k) (c - k)] wr fun e w' => e = .returned (.tuple #[.agg ZA, .int .i64 0, .int .i64 2]) ∧ Below wr.heap.size wr w') := HD.out.mono fun e w' h => by
          unfold DecNew at h
          rw [hd] at h
          rw [hZA]
          exact h
        clear HD hd hZA
        go_wp2_with fail
        (with_reducible refine HD2.out.mono ?_)
        rintro e w2 ⟨rfl, b2⟩
        have HB2 := Lib.hid b2
        have HALL : Hid (∀ c : Array Value, (w2.alloc (.cells c 30)).heap[w2.heap.size]? = some (.cells c 30 (0, 0))) := fun c => heap_alloc_last w2 _
        have HALB : Hid (∀ c : Array Value, Below w2.heap.size w2 (w2.alloc (.cells c 30))) := fun c => (Below.refl _ _).alloc (Nat.le_refl _) _
        clear HD2 b2
        go_wp2_with (refine wpList_store_arr rfl 30 _ _ rfl w2.heap.size ZA rfl rfl 30 _ (HALL.out _) (by rw [HQS.out]; kernel_rfl) (by rw [HQS.out]; rfl) HQ1.out ?_; intro w3 HC3 hf3; have HB23 : Hid (Below w2.heap.size w2 w3) := (HALB.out _).trans (hf3.out.below (HALB.out _).size (fun k hk e => by omega)); clear hf3 HALL HALB)
        have HF3 : Hid (FSt w w3 u3 F) := HF.out.later (HB2.out.trans (HB23.out.mono HB2.out.size))
        have HG3 : Hid (∀ fs, Finds l (k + 1) fs → Finds l 0 (F.map Fnd.pair ++ fs)) := fun fs h => HG.out fs (.next hlt HND.out h)
        go_roundw
        case rel => exact ⟨k + 1, F, by omega, by omega, by go_num, HF3, HG3⟩
        case measure => simp [intOf]; omega
      | sum =>
        have HND : Hid (∀ p n, decN (l.drop k) ≠ .ok p n) := fun p n h => by rw [hd] at h; cases h
        obtain ⟨ZA, hZA⟩ : ∃ ZA, ZA = rowArr 51 (pkV zPk none 0 none 0) := ⟨_, rfl⟩
        have HQ1 : Hid (ZA.all (·.oneCell') = true) := by show _ = _; rw [hZA]; exact oneCell_pk _ _ _ _ _
        have HQS : Hid (ZA.size = 51) := by show _ = _; rw [hZA, rowArr_size]
        have HD2 : Hid (Calls Tryd.prog 12 #[.slice a2 (l.length - k) (c - k)] wr fun e w' => e = .returned (.tuple #[.agg ZA, .int .i64 0, .int .i64 11]) ∧ Below wr.heap.size wr w') := HD.out.mono fun e w' h => by
          unfold DecNew at h
          rw [hd] at h
          rw [hZA]
          exact h
        clear HD hd hZA
        go_wp2_with fail
        (with_reducible refine HD2.out.mono ?_)
        rintro e w2 ⟨rfl, b2⟩
        have HB2 := Lib.hid b2
        have HALL : Hid (∀ c : Array Value, (w2.alloc (.cells c 30)).heap[w2.heap.size]? = some (.cells c 30 (0, 0))) := fun c => heap_alloc_last w2 _
        have HALB : Hid (∀ c : Array Value, Below w2.heap.size w2 (w2.alloc (.cells c 30))) := fun c => (Below.refl _ _).alloc (Nat.le_refl _) _
        clear HD2 b2
        go_wp2_with (refine wpList_store_arr rfl 30 _ _ rfl w2.heap.size ZA rfl rfl 30 _ (HALL.out _) (by rw [HQS.out]; kernel_rfl) (by rw [HQS.out]; rfl) HQ1.out ?_; intro w3 HC3 hf3; have HB23 : Hid (Below w2.heap.size w2 w3) := (HALB.out _).trans (hf3.out.below (HALB.out _).size (fun k hk e => by omega)); clear hf3 HALL HALB)
        have HF3 : Hid (FSt w w3 u3 F) := HF.out.later (HB2.out.trans (HB23.out.mono HB2.out.size))
        have HG3 : Hid (∀ fs, Finds l (k + 1) fs → Finds l 0 (F.map Fnd.pair ++ fs)) := fun fs h => HG.out fs (.next hlt HND.out h)
        go_roundw
        case rel => exact ⟨k + 1, F, by omega, by omega, by go_num, HF3, HG3⟩
        case measure => simp [intOf]; omega
    · obtain rfl : k = l.length := by omega
      have HG2 : Hid (Finds l 0 (F.map Fnd.pair)) := by
        have h := HG.out [] (.stop (Nat.le_refl _))
        rw [List.append_nil] at h
        exact h
      go_wp2_with fail
      go_ret
      exact ⟨_, F, rfl, HF.out, HG2.out, hFk⟩
end Go.Proofs.YthpfjgbhacdpgaaDoor
