/-
  Package row's free, draw, Picks.
-/
import Derived.Test.YtgfcpneblkleiaaRowMath
import Derived.Test.YtgfcpneblkleiaaRandB
import Derived.Deep.LoopGhost
namespace Go.Proofs.Ytgfcpneblkleiaa
open Go.ChangeShapes Go.WideShapes Go.ChangeAt Go.RowKit Go.Joins
set_option linter.unusedVariables false

theorem tmod_two (i s : Nat) : ((i : Int) + 1).tmod (s : Int) = (((i + 1) % s : Nat) : Int) ∧ ((i : Int) + 1) % (s : Int) = (((i + 1) % s : Nat) : Int) :=
  ⟨by rw [Int.tmod_eq_emod_of_nonneg (by omega)]; rfl, rfl⟩

set_option maxHeartbeats 400000 in
theorem free_any (a : Option Addr) (cap : Nat) (l : List Nat) (p : Nat) (w : World) (hl : l.length ≤ 1000000) (hs : Sl w a cap l) (hp : p < l.length) (hf : FreeIn l p l.length) :
    Calls Try.prog 41 #[.slice a l.length cap, .int .i64 (p : Int)] w fun e w' => e = .returned (.int .i64 ((goN l p l.length : Nat) : Int)) ∧ w = w' := by
  obtain ⟨b, off, rfl, hb⟩ := hs.some hp
  have HB := Lib.hid hb
  have HF := Lib.hid hf
  have HY := Lib.hid hs.byte
  obtain ⟨R, hR⟩ : ∃ R, goN l p l.length = R := ⟨_, rfl⟩
  rw [hR]
  have HR : Hid (goN l p l.length = R) := hR
  clear hR hs hb hf
  go_enter Try.func41, Try.ntmps41
  go_wp2_with fail
  go_loopg [1] l.length (fun gg i wi => ∃ q : Nat, q < l.length ∧ i = .int .i64 q ∧ Hid (FreeIn l q gg) ∧ Hid (goN l q gg = R) ∧ wi = w)
  case atStart => exact ⟨p, hp, rfl, HF, HR, rfl⟩
  case round =>
    obtain ⟨q, hq, rfl, HQ, HG, rfl⟩ := hrel
    have hck := HB.out q hq
    have hx : l[q] < 256 := HY.out _ (List.getElem_mem hq)
    obtain ⟨e1, e2⟩ := tmod_two q l.length
    have hm := Nat.mod_lt (q + 1) (show 0 < l.length by omega)
    have hz : ((l.length : Int) == 0) = false := by rw [beq_eq_false_iff_ne]; omega
    have hz2 : ¬ ((l.length : Int) = 0) := by omega
    have hpos : 0 < gk := FreeIn.pos HQ.out
    obtain ⟨f, rfl⟩ : ∃ f, gk = f + 1 := ⟨gk - 1, by omega⟩
    have HD : Hid (l.getD q 0 = l[q]) := getD_get hq
    have HZ : Hid (l[q] = 0 → R = q) := fun e => by
      rw [← HG.out]; unfold goN; rw [if_pos (by rw [HD.out]; exact e)]
    have HN : Hid (l[q] ≠ 0 → FreeIn l ((q + 1) % l.length) f ∧ goN l ((q + 1) % l.length) f = R) := fun e => by
      refine ⟨HQ.out.next hq (by rw [HD.out]; exact e), ?_⟩
      rw [← HG.out]
      conv => rhs; unfold goN
      rw [if_neg (by rw [HD.out]; exact e)]
    clear HQ HG HD
    generalize l[q] = x at *
    by_cases hx0 : x = 0
    · have hzx : ((x : Int) != 0) = false := by subst hx0; rfl
      have HE := Lib.hid (HZ.out hx0)
      clear HZ HN hx0 e1 e2
      go_wp2_with fail
      go_ret
      exact ⟨by rw [HE.out]; rfl, rfl⟩
    · have hzx : ((x : Int) != 0) = true := by simp; omega
      have HE := Lib.hid (HN.out hx0)
      clear HZ HN hx0
      generalize (q + 1) % l.length = q2 at *
      go_wp2_with fail
      go_roundg f
      case rel => exact ⟨q2, hm, rfl, HE.out.1, HE.out.2, rfl⟩
      case measure => omega

theorem RSt.alloc {w : World} {B x : Nat} (h : RSt w B x) (o : Obj) : RSt (w.alloc o) B x := ⟨(heap_alloc_old w o h.lt).trans h.blk⟩
theorem Row.only {w w' : World} {B g : Nat} {ty : TypeId} {n k : Nat} {f : Nat → Value} (h : Row w g ty n k f) (k' : ROnly B w w') (hne : g ≠ B) : Row w' g ty n k f := by
  obtain ⟨cs, h1, h2, h3⟩ := h
  exact ⟨cs, by rw [k'.block _ hne]; exact h1, h2, h3⟩
theorem Row.set_at {w : World} {g n : Nat} {l : List Nat} (h : Row w g 5 n n (vOf l)) (hl : l.length = n) {k : Nat} (hk : k < n) (v : Nat) : Row (w.setCell ⟨g, k, none⟩ (.int .u8 (v : Int))) g 5 n n (vOf (l.set k v)) :=
  (h.upd k hk _).mono (Nat.le_refl _) fun j hj => by
    have hjs : j < (l.set k v).length := by rw [List.length_set]; omega
    by_cases e : j = k
    · subst e
      rw [if_pos rfl, vOf_eq _ _ hjs, List.getElem_set_self]
    · rw [if_neg e, vOf_eq _ _ hjs, List.getElem_set_ne (Ne.symm e), vOf_eq _ _ (by omega)]
theorem capI_nat (d n : Nat) (h1 : 1 ≤ n) : ∃ D : Nat, capI d (n : Int) = (D : Int) ∧ D ≤ n ∧ (capI d (n : Int)).toNat = D := by
  refine ⟨(capI d (n : Int)).toNat, ?_, ?_, rfl⟩ <;> unfold capI <;> omega

/-- While places are drawn: the Rand, the numbers, all else. -/
structure DrawAt (W : World) (B g n : Nat) (wr : World) (y : Nat) (l : List Nat) : Prop where
  st : RSt wr B y
  row : Row wr g 5 n n (vOf l)
  below : Below W.heap.size W wr
theorem DrawAt.only {W : World} {B g n : Nat} {w w' : World} {y z : Nat} {l : List Nat} (h : DrawAt W B g n w y l) (hs : RSt w' B z) (k : ROnly B w w') (hB : W.heap.size ≤ B) (hne : g ≠ B) : DrawAt W B g n w' z l :=
  ⟨hs, h.row.only k hne, h.below.trans (k.below hB)⟩
theorem DrawAt.set {W : World} {B g n : Nat} {w : World} {y : Nat} {l : List Nat} (h : DrawAt W B g n w y l) (hl : l.length = n) {k : Nat} (hk : k < n) (v : Nat) (hg : W.heap.size ≤ g) (hne : B ≠ g) : DrawAt W B g n (w.setCell ⟨g, k, none⟩ (.int .u8 (v : Int))) y (l.set k v) :=
  ⟨⟨(Below.heap_setCell _ _ _ _ hne).trans h.st.blk⟩, h.row.set_at hl hk v, h.below.setCell hg _⟩

def DrawPost (W : World) (l : List Nat) (n : Nat) (e : Ending) (w' : World) : Prop :=
  ∃ g, e = .returned (.slice (some ⟨g, 0, none⟩) n n) ∧ Sl w' (some ⟨g, 0, none⟩) n l ∧ Below W.heap.size W w'

set_option maxHeartbeats 1000000 in
theorem draw_any (W w : World) (B x n : Nat) (hx : x < 4294967296) (h : RSt w B x) (hW : Below W.heap.size W w) (hB : W.heap.size ≤ B) (h1 : 1 ≤ n) (hn : n ≤ 1000) :
    Calls Try.prog 34 #[.pointer (some ⟨B, 0, none⟩), .int .i64 (n : Int)] w (DrawPost W (drawnN x n) n) := by
  have hmk := make_row n (by omega) w
  have hlt := h.lt
  have hx1 := nextN_lt hx
  have hs0 := h.alloc (.cells (rowArr n zV) 5)
  have E0 := Lib.hid (degree_any (n : Int) hx hs0)
  obtain ⟨D, hD, hDn, hDt⟩ := capI_nat (degN (nextN x % 1024)) n h1
  have HDR : Hid (drawnN x n = (drawD (nextN x) n D).2) := by show _ = _; unfold drawnN; rw [hDt]
  rw [hD] at E0
  have HR0 : Hid (Row (w.alloc (.cells (rowArr n zV) 5)) w.heap.size 5 n n (vOf (List.replicate n 0))) := (Row.new_whole w _ 5 (vOf (List.replicate n 0)) _ _ rfl (zeros_arr n))
  have HBA : Hid (Below W.heap.size W (w.alloc (.cells (rowArr n zV) 5))) := hW.alloc hW.size _
  have hWg := hW.size
  have HST := Lib.hid (drawD_state hx1 n)
  have HLN := Lib.hid (drawD_len (nextN x) n)
  have HBY := Lib.hid (drawD_byte (nextN x) n)
  have HFR : Hid (∀ d a, d < n → a < n → FreeIn (drawD (nextN x) n d).2 a n) := fun d a hd ha => drawD_free (nextN x) n d a hd ha
  have HD0 : Hid (drawD (nextN x) n 0 = (nextN x, List.replicate n 0)) := rfl
  have HDS : Hid (∀ d, drawD (nextN x) n (d + 1) = stepD n (drawD (nextN x) n d)) := fun d => rfl
  clear h hs0 hW hD hDt
  rw [HDR.out]
  generalize drawD (nextN x) n = S at *
  generalize nextN x = x1 at *
  generalize w.heap.size = g at *
  clear HDR
  go_enter Try.func34, Try.ntmps34
  go_wp2_with fail
  refine E0.out.mono ?_
  rintro e w1 ⟨rfl, s1, o1⟩
  have HA : Hid (DrawAt W B g n w1 (S 0).1 (S 0).2) := by rw [HD0.out]; exact ⟨s1, HR0.out.only o1 (by omega), HBA.out.trans (o1.below hB)⟩
  clear s1 o1 HR0 HBA HD0 E0 hmk
  go_wp2_with fail
  go_loopw [12] (fun i wr => ∃ j : Nat, j ≤ D ∧ i = .int .i64 j ∧ Hid (DrawAt W B g n wr (S j).1 (S j).2)) (fun i _ => D - (intOf i).toNat)
  case atStart => exact ⟨0, by omega, rfl, HA⟩
  case round =>
    obtain ⟨j, hj, rfl, HK⟩ := hrel
    by_cases hjD : j < D
    · have hy := HST.out j
      have hy1 := nextN_lt hy
      have hy2 := nextN_lt hy1
      have hll := HLN.out j
      have HLB := Lib.hid (HBY.out j)
      have hf0 : nextN (S j).1 % n < n := Nat.mod_lt _ (by omega)
      have HFJ : Hid (FreeIn (S j).2 (nextN (S j).1 % n) n) := HFR.out j _ (by omega) hf0
      have hlt2 := goN_lt (l := (S j).2) n (nextN (S j).1 % n) (by omega)
      have HNX : Hid (S (j + 1) = (nextN (nextN (S j).1), (S j).2.set (goN (S j).2 (nextN (S j).1 % n) n) (1 + nextN (nextN (S j).1) % 255))) := HDS.out j
      generalize (S j).1 = y at *
      generalize (S j).2 = l at *
      have E1 := Lib.hid (below_some (n : Int) hy HK.out.st (by omega) (by omega))
      have he1 : ((nextN y : Nat) : Int) % (n : Int) = ((nextN y % n : Nat) : Int) := rfl
      rw [he1] at E1
      clear he1
      generalize hp : nextN y % n = p at *
      generalize hy1e : nextN y = y1 at *
      go_wp2_with fail
      refine E1.out.mono ?_
      rintro e w2 ⟨rfl, s2, o2⟩
      have HK2 : Hid (DrawAt W B g n w2 y1 l) := HK.out.only s2 o2 hB (by omega)
      have E2 : Hid (Calls Try.prog 41 #[.slice (some ⟨g, 0, none⟩) n n, .int .i64 (p : Int)] w2 fun e w' => e = .returned (.int .i64 ((goN l p n : Nat) : Int)) ∧ w2 = w') := by
        have := free_any (some ⟨g, 0, none⟩) n l p w2 (by omega) (HK2.out.row.sl hll HLB.out (by unfold maxLen; omega)) (by omega) (by rw [hll]; exact HFJ.out)
        rw [hll] at this
        exact this
      generalize goN l p n = q at *
      clear s2 o2 E1
      go_wp2_with fail
      refine E2.out.mono ?_
      rintro e w3 ⟨rfl, rfl⟩
      have E3 := Lib.hid (below_some (255 : Int) hy1 HK2.out.st (by omega) (by omega))
      have he3 : ((nextN y1 : Nat) : Int) % (255 : Int) = ((nextN y1 % 255 : Nat) : Int) := rfl
      rw [he3] at E3
      clear he3 E2
      have hz : nextN y1 % 255 < 255 := Nat.mod_lt _ (by omega)
      generalize hze : nextN y1 % 255 = z at *
      generalize hy2e : nextN y1 = y2 at *
      go_wp2_with fail
      refine E3.out.mono ?_
      rintro e w4 ⟨rfl, s4, o4⟩
      have HK4 : Hid (DrawAt W B g n w4 y2 l) := HK2.out.only s4 o4 hB (by omega)
      have HK5 : Hid (DrawAt W B g n (w4.setCell ⟨g, q, none⟩ (.int .u8 ((1 + z : Nat) : Int))) y2 (l.set q (1 + z))) := HK4.out.set hll (by omega) (1 + z) hWg (by omega)
      obtain ⟨vk, hcv⟩ := HK4.out.row.has q (by omega)
      have hlo := HK4.out.row.loose q
      have hql : q < n := by omega
      clear s4 o4 E3
      go_wp2_with fail
      go_roundw
      case rel => exact ⟨j + 1, by omega, by go_num, by rw [HNX.out]; exact HK5⟩
      case measure => simp [intOf]; omega
    · obtain rfl : j = D := by omega
      go_wp2_with fail
      go_ret
      exact ⟨g, rfl, HK.out.row.sl (HLN.out j) (HBY.out j) (by unfold maxLen; omega), HK.out.below⟩

set_option maxHeartbeats 800000 in
theorem picks_any (k id : Nat) (h1 : 1 ≤ k) (hk : k ≤ 64) (hid : id < 4294967296) (w : World) :
    Calls Try.prog 29 #[.int .i64 (k : Int), .int .u32 (id : Int)] w (CellsPost (picksN k id) w) := by
  have hb := spN_bound hk
  have E0 := Lib.hid (count_any k h1 hk)
  have E1 := Lib.hid (fun w => seed_any k id (by omega) hid w)
  have hsd : seedN k id < 4294967296 := Nat.mod_lt _ (by omega)
  have E2 := Lib.hid (new_any (seedN k id) hsd)
  have hy := beginN_lt hsd
  have HN : Hid (numsN k id = drawnN (beginN (seedN k id)) (k + (spN k + 2))) := rfl
  have HP : Hid (picksN k id = cellsTo (numsN k id) (numsN k id).length) := rfl
  have HL := Lib.hid (numsN_len k id)
  generalize picksN k id = P at *
  generalize numsN k id = l at *
  generalize beginN (seedN k id) = y at *
  generalize seedN k id = s at *
  generalize hp : spN k + 2 = p at *
  have hne : ((p : Int) == 0) = false := by rw [beq_eq_false_iff_ne]; omega
  go_enter Try.func29, Try.ntmps29
  go_wp2_with fail
  refine (E0.out _).mono ?_
  rintro e w1 ⟨rfl, rfl⟩
  go_wp2_with fail
  refine (E1.out _).mono ?_
  rintro e w1 ⟨rfl, rfl⟩
  go_wp2_with fail
  refine (E2.out _).mono ?_
  rintro e w1 ⟨rfl, s1, b1, z1⟩
  have HD : Hid (Calls Try.prog 34 #[.pointer (some ⟨w.heap.size, 0, none⟩), .int .i64 ((k : Int) + (p : Int))] w1 (DrawPost w l (k + p))) := by
    have := draw_any w w1 w.heap.size y (k + p) hy s1 b1 (Nat.le_refl _) (by omega) (by omega)
    rw [← HN.out] at this
    exact this
  clear s1 b1 z1 E0 E1 E2
  go_wp2_with fail
  refine HD.out.mono ?_
  rintro e w2 ⟨g, rfl, s2, b2⟩
  have hkp : l.length = k + p := HL.out
  have HC : Hid (Calls Try.prog 19 #[.slice (some ⟨g, 0, none⟩) (k + p) (k + p)] w2 (CellsPost P w2)) := by
    have := cells_any (some ⟨g, 0, none⟩) (k + p) l w2 (by omega) s2
    rw [← HP.out, hkp] at this
    exact this
  have HB2 := Lib.hid b2
  clear s2 b2 HD
  go_wp2_with fail
  refine HC.out.mono ?_
  rintro e w3 ⟨v, rfl, o3, b3⟩
  have hO : OwnP w.heap.size w3 v P := o3.lower HB2.out.size
  have hB : Below w.heap.size w w3 := HB2.out.trans (b3.mono HB2.out.size)
  have HH := Lib.hid (And.intro hO hB)
  clear o3 b3 hO hB HC
  go_wp2_with fail
  go_ret
  exact ⟨v, rfl, HH.out.1, HH.out.2⟩

theorem picks_none (k : Int) (id : Nat) (h : k < 1 ∨ 64 < k) (w : World) :
    Calls Try.prog 29 #[.int .i64 k, .int .u32 (id : Int)] w fun e w' => e = .returned (.slice none 0 0) ∧ w = w' := by
  have E0 := Lib.hid (count_none k h)
  go_enter Try.func29, Try.ntmps29
  go_wp2_with (go_at_call 27; refine (E0.out _).mono ?_; rintro e w1 ⟨rfl, rfl⟩)
  go_ret
  exact ⟨rfl, rfl⟩
end Go.Proofs.Ytgfcpneblkleiaa
