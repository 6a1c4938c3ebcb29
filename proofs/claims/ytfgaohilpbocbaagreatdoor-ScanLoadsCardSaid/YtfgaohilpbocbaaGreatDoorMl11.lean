/-
  The document's digest, its small parts: 'turned', 'Number', 'Wide' of package geyserref01.
-/
import Derived.Test.YtfgaohilpbocbaaGreatDoorMl10
import Derived.Laws.AppendOwn
import Derived.Laws.AppendOwnNone
import Derived.OwnWalk
section
namespace Go.Proofs.YtfgaohilpbocbaaGreatDoor.Sha
open Go.ChangeShapes Go.WideShapes Go.ChangeAt Go.RowKit
set_option linter.unusedVariables false

theorem turned_any (x n : Nat) (m : Int) (hm : m = (n : Int)) (hx : x < 4294967296) (h1 : 1 ≤ n) (h2 : n ≤ 31) (w : World) :
    Calls Tryz.prog 79 #[.int .u64 (x : Int), .int .u64 m] w fun e w' => e = .returned (.int .u64 ((rotr x n : Nat) : Int)) ∧ w = w' := by
  subst hm
  have hp : 2 ^ (32 - n) ≤ 2147483648 := by have := Nat.pow_le_pow_right (show 0 < 2 by omega) (show 32 - n ≤ 31 by omega); simpa using this
  have hmul : x * 2 ^ (32 - n) < 18446744073709551616 := by
    have := Nat.mul_le_mul (Nat.le_of_lt hx) hp
    omega
  have hd : x / 2 ^ n < 4294967296 := Nat.lt_of_le_of_lt (Nat.div_le_self _ _) hx
  have e1 : bits .and .u64 (bits .or .u64 ((x : Int) / 2 ^ n) (IntKind.u64.wrap ((x : Int) * 2 ^ (32 - n)))) 4294967295 = ((rotr x n : Nat) : Int) := by
    have a1 : ((x : Int) / 2 ^ n) = ((x / 2 ^ n : Nat) : Int) := by simp
    have a2 : IntKind.u64.wrap ((x : Int) * 2 ^ (32 - n)) = ((x * 2 ^ (32 - n) : Nat) : Int) := by
      rw [IntKind.wrap_u64]
      have : ((x : Int) * 2 ^ (32 - n)) = ((x * 2 ^ (32 - n) : Nat) : Int) := by simp
      rw [this]; omega
    rw [a1, a2, u64_or_nat _ _ (by omega) hmul]
    have hor : x / 2 ^ n ||| x * 2 ^ (32 - n) < 18446744073709551616 := by
      have : x / 2 ^ n ||| x * 2 ^ (32 - n) < 2 ^ 64 := Nat.or_lt_two_pow (by omega) (by omega)
      simpa using this
    have := u64_and_nat (x / 2 ^ n ||| x * 2 ^ (32 - n)) 4294967295 hor (by omega)
    rw [nat_mask32, rotr_wide x n hx (by omega)] at this
    exact this
  have E1 := Lib.hid e1
  clear e1 hp hmul hd
  go_enter Tryz.func79, Tryz.ntmps79
  go_wp2
  go_ret
  exact ⟨congrArg (fun z => Ending.returned (.int .u64 z)) E1.out, rfl⟩

/-- The number of some bytes. -/
def numN (l : List Nat) : Nat := l.foldl (fun v c => v * 256 + c) 0

theorem numN_snoc (l : List Nat) (k : Nat) (h : k < l.length) : numN (l.take (k + 1)) = numN (l.take k) * 256 + l[k] := by
  unfold numN
  rw [List.take_succ_eq_append_getElem h, List.foldl_append]
  rfl

theorem numN_lt (l : List Nat) (hb : IsByte l) : ∀ k, k ≤ l.length → numN (l.take k) < 256 ^ k := by
  intro k
  induction k with
  | zero => intro _; simp [numN]
  | succ k ih =>
    intro hk
    have h1 := ih (by omega)
    have h2 := hb l[k] (List.getElem_mem (by omega))
    rw [numN_snoc l k (by omega), Nat.pow_succ]
    omega

set_option maxHeartbeats 400000 in
theorem number_any (b off cap : Nat) (l : List Nat) (hl : l.length ≤ 4) (w : World) (hb : IsByte l) (hc : BytesIn w b off l) :
    Calls Tryz.prog 78 #[.slice (some ⟨b, off, none⟩) l.length cap] w fun e w' => e = .returned (.int .u64 ((numN l : Nat) : Int)) ∧ w = w' := by
  have HC := Lib.hid hc
  have HB := Lib.hid hb
  clear hc hb
  go_enter Tryz.func78, Tryz.ntmps78
  go_wp2
  go_loop [3, 7] (fun s i => ∃ k t : Nat, k ≤ l.length ∧ Hid (t = numN (l.take k)) ∧ t < 4294967296 ∧ i = .int .i64 k ∧ s = .int .u64 t) (fun _ i => l.length - (intOf i).toNat)
  case atStart => exact ⟨0, 0, by omega, rfl, by omega, rfl, rfl⟩
  case round =>
    obtain ⟨k, t, hk, HT, htl, rfl, rfl⟩ := hrel
    by_cases hlt : k < l.length
    · have c0 := HC.out k hlt
      have y0 : l[k] < 256 := HB.out _ (List.getElem_mem hlt)
      have HS := Lib.hid (numN_snoc l k hlt)
      have hN : numN (l.take (k + 1)) < 4294967296 := by
        have := numN_lt l HB.out (k + 1) (by omega)
        have h2 : 256 ^ (k + 1) ≤ 256 ^ 4 := Nat.pow_le_pow_right (by omega) (by omega)
        omega
      have hN2 : t * 256 + l[k] < 4294967296 := by rw [HT.out, ← HS.out]; exact hN
      clear hN
      generalize l[k] = c at *
      go_wp2
      go_round
      case rel => exact ⟨k + 1, t * 256 + c, by omega, by rw [HS.out, ← HT.out]; exact rfl, hN2, by go_num, by congr 1⟩
      case measure => simp [intOf]; omega
    · have HE : Hid (numN l = t) := by
        have := HT.out
        rw [List.take_of_length_le (by omega)] at this
        exact this.symm
      go_wp2
      go_ret
      exact ⟨by rw [HE.out]; rfl, rfl⟩

def wideN (v i : Nat) : Nat := v / 256 ^ (7 - i) % 256
def wideV (v i : Nat) : Value := .int .u8 ((wideN v i : Nat) : Int)

/-- Eight bytes, filled from the last on. -/
def Wd (W wr : World) (v j : Nat) : Prop := Below W.heap.size W wr ∧ Row wr W.heap.size 5 8 8 (fun i => if 8 - j ≤ i then wideV v i else zV i)

theorem Wd.set {W wr : World} {v j : Nat} (h : Wd W wr v j) (hj : j < 8) {u : Value} (hu : u = wideV v (7 - j)) : Wd W (wr.setCell ⟨W.heap.size, 7 - j, none⟩ u) v (j + 1) :=
  ⟨h.1.setCell (Nat.le_refl _) _, (h.2.upd (7 - j) (by omega) u).mono (Nat.le_refl _) fun i hi => by
    by_cases e : i = 7 - j
    · subst e
      simp only [if_true, hu]
      rw [if_pos (by omega)]
    · simp only [e, if_false]
      by_cases h2 : 8 - j ≤ i
      · rw [if_pos h2, if_pos (by omega)]
      · rw [if_neg h2, if_neg (by omega)]⟩

set_option maxHeartbeats 400000 in
theorem wide_any (v : Nat) (hv : v < 18446744073709551616) (w : World) :
    Calls Tryz.prog 77 #[.int .u64 (v : Int), .int .i64 8] w fun e w' => e = .returned (.slice (some ⟨w.heap.size, 0, none⟩) 8 8) ∧ Wd w w' v 8 := by
  have hmk : ∀ w : World, (Instr.makeSlice 53 (.int .i64 8) (.int .i64 8)).run Tryz.prog w = .ok (.slice (some ⟨w.heap.size, 0, none⟩) 8 8) (w.alloc (.cells (rowArr 8 zV) 5)) := fun w => make_row 8 (by omega) w
  have HW : Hid (Wd w (w.alloc (.cells (rowArr 8 zV) 5)) v 0) := ⟨(Below.refl _ _).alloc (Nat.le_refl _) _, (Row.new_whole w _ _ zV _ _ rfl rfl).mono (Nat.le_refl _) fun i hi => by simp only [show ¬ (8 - 0 ≤ i) by omega, if_false]⟩
  go_enter Tryz.func77, Tryz.ntmps77
  go_wp2_with fail
  clear hmk
  go_loopw [0, 6] (fun u i wr => ∃ j t : Nat, j ≤ 8 ∧ Hid (t = v / 256 ^ j) ∧ t < 18446744073709551616 ∧ u = .int .u64 (t : Int) ∧ i = .int .i64 (7 - (j : Int)) ∧ Hid (Wd w wr v j)) (fun _ i _ => (intOf i + 1).toNat)
  case atStart => exact ⟨0, v, by omega, by simp [Hid], hv, rfl, rfl, HW⟩
  case round =>
    obtain ⟨j, t, hj, HT, htl, rfl, rfl, HJ⟩ := hrel
    by_cases hlt : j < 8
    · have hlo := HJ.out.2.loose (7 - j)
      obtain ⟨vk, hck⟩ := HJ.out.2.has (7 - j) (by omega)
      have HS : Hid (Wd w (wr.setCell ⟨w.heap.size, 7 - j, none⟩ (.int .u8 ((t : Int) % 256))) v (j + 1)) := HJ.out.set hlt (by unfold wideV wideN; rw [HT.out, show 7 - (7 - j) = j by omega]; simp)
      have HT2 : Hid (t / 256 = v / 256 ^ (j + 1)) := by rw [HT.out, Nat.pow_succ, Nat.div_div_eq_div_mul]; exact rfl
      go_wp2_with fail
      go_roundw
      case rel => exact ⟨j + 1, t / 256, by omega, HT2, by omega, by simp, by congr 1; simp; omega, HS⟩
      case measure => simp [intOf]; omega
    · have hj8 : j = 8 := by omega
      subst hj8
      go_wp2_with fail
      go_ret
      exact ⟨rfl, HJ.out⟩

def byteV (c : Nat) : Value := .int .u8 (c : Int)

/-- A slice of the call's own: its bytes. -/
def Own (w : World) (base : Nat) (v : Value) (l : List Nat) : Prop := w.ownsRow base 5 1 v l.length (l.map byteV)

theorem ownBlock_ge {w : World} {base size n : Nat} {e : TypeId} {v : Value} {xs : List Value} (h : w.ownsRow base e size v n xs) : ∀ k, v.ownBlock = some k → base ≤ k := by
  intro k hk
  rcases h.2 with ⟨rfl, _⟩ | ⟨g, cap, cur, rfl, hg, _⟩
  · simp [Value.ownBlock] at hk
  · simp [Value.ownBlock] at hk
    omega

theorem wp_append {w : World} {ops : Array Oper} {rest : List Oper} {o : Oper} {a : Act} {Q : Exit → Act → World → Prop} (hgd : o.guard = none) (s x : Operand)
    (ho : o.op = .call { callee := .builtin .append, args := #[s, x], argTypes := #[53, 53] }) (base : Nat) (v : Value) (l news : List Nat) (hs : a.eval s = v) (hown : Own w base v l)
    (ad : Addr) (n c : Nat) (hn : news.length = n) (hx : a.eval x = .slice (some ad) n c) (hc : ∀ j (h : j < news.length), w.cell? (ad.add j) = some (byteV news[j]))
    (hlen : l.length + news.length ≤ 2000000) (hbase : base ≤ w.heap.size) (w0 : World) (hb : Below base w0 w)
    (h : ∀ v' w', Hid (Own w' base v' (l ++ news)) → Hid (Below base w0 w') → wpList Tryz.prog ops Q rest (a.put o.dst v') w') : wpList Tryz.prog ops Q (o :: rest) a w := by
  subst hn
  obtain ⟨i0, hi, hz0, hz1, hz2⟩ := info_parts info5
  refine wpList_append_own _ hgd s x 53 ho base 5 i0 (.int .u8 0) 1 1 Tryz.underlying53 hi hz0 hz1 hz2 rfl (by decide) v l.length (l.map byteV) hs hown ad news.length c (news.map byteV) hx (by simp) (fun j u hu => ?_) (fun u hu => ?_) (by unfold maxLen; omega) (by omega) hbase (fun v' w' h1 h2 _ => h v' w' ?_ ?_)
  · have hj : j < news.length := by
      rcases Nat.lt_or_ge j news.length with h | h
      · exact h
      · simp [List.getElem?_eq_none h] at hu
    have e : u = byteV news[j] := by simpa [hj] using hu.symm
    rw [e]; exact hc j hj
  · obtain ⟨c, _, rfl⟩ := List.mem_map.1 hu
    rfl
  · show w'.ownsRow base 5 1 v' (l ++ news).length ((l ++ news).map byteV)
    rw [List.length_append, List.map_append]; exact h1
  · exact hb.grown h2 hbase (ownBlock_ge hown)

theorem Own.below {w w' : World} {base B : Nat} {v : Value} {l : List Nat} (h : Own w base v l) (hb : Below B w w') (hB : w.heap.size ≤ B) : Own w' base v l := by
  refine ⟨h.1, ?_⟩
  rcases h.2 with h2 | ⟨g, cap, cur, h1, h2, h3, h4⟩
  · exact .inl h2
  · exact .inr ⟨g, cap, cur, h1, h2, by rw [hb.block g (Nat.lt_of_lt_of_le (Array.getElem?_eq_some_iff.1 h3).1 hB)]; exact h3, h4⟩

theorem Own.bytes {w : World} {base : Nat} {v : Value} {l : List Nat} (h : Own w base v l) (hl : l ≠ []) : ∃ g cap, v = .slice (some ⟨g, 0, none⟩) l.length cap ∧ base ≤ g ∧ l.length ≤ cap ∧ cap ≤ maxLen ∧ BytesIn w g 0 l ∧ g < w.heap.size := by
  rcases h.2 with ⟨_, h2⟩ | ⟨g, cap, cur, h1, h2, h3, h4, h5, h6, h7⟩
  · exact absurd (List.length_eq_zero_iff.1 h2) hl
  · refine ⟨g, cap, h1, h2, h4, h5, fun i hi => ?_, (Array.getElem?_eq_some_iff.1 h3).1⟩
    rw [Nat.zero_add, Joins.cell_of_block h3]
    have : (cur.toList.take (l.length * 1))[i]? = (l.map byteV)[i]? := by rw [h7]
    rw [Nat.mul_one, List.getElem?_take_of_lt hi] at this
    rw [← Array.getElem?_toList, this]
    simp [hi, byteV]

end Go.Proofs.YtfgaohilpbocbaaGreatDoor.Sha
end
