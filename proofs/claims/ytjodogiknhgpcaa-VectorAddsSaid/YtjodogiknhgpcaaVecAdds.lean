/-
  The law VectorAdds, walked.
-/
import Derived.Test.YtjodogiknhgpcaaVecLaws
import Derived.Test.YtjodogiknhgpcaaGrow
namespace Go.Proofs.Ytjodogiknhgpcaa
open Go.ChangeShapes Go.WideShapes Go.ChangeAt Go.RowKit
set_option linter.unusedVariables false

theorem vectorAdds_big (a a2 : Option Addr) (cap cap2 : Nat) (n m : Nat) (c : Nat) (hl1 : n ≤ 9223372036854775807) (hl2 : m ≤ 9223372036854775807) (w : World) (h : (5000 < n) ∨ (n ≤ 5000 ∧ 5000 < m)) :
    Calls Try.prog 3 #[.slice a n cap, .slice a2 m cap2, .int .u8 (c : Int)] w fun e w' => e = .returned (.bool true) ∧ Below w.heap.size w w' := by
  rcases h with h | ⟨h, h2⟩
  all_goals
    go_enter Try.func3, Try.ntmps3
    go_wp2_with fail
    refine (awake_any _).mono ?_
    rintro e w1 ⟨rfl, b1⟩
    go_wp2_with fail
    refine (awake_any _).mono ?_
    rintro e w2 ⟨rfl, b2⟩
    go_wp2_with fail
    go_ret
    exact ⟨rfl, b1.trans (b2.mono b1.size)⟩

theorem vectorAdds_other (a a2 : Option Addr) (cap cap2 : Nat) (n m : Nat) (c : Nat) (h1 : n ≤ 5000) (h2 : m ≤ 5000) (he : n ≠ m) (w : World) :
    Calls Try.prog 3 #[.slice a n cap, .slice a2 m cap2, .int .u8 (c : Int)] w fun e w' => e = .returned (.bool true) ∧ Below w.heap.size w w' := by
  have hne : ((n : Int) != (m : Int)) = true := by simp; omega
  have HE := Lib.hid he
  clear he
  go_enter Try.func3, Try.ntmps3
  go_wp2_with fail
  refine (awake_any _).mono ?_
  rintro e w1 ⟨rfl, b1⟩
  go_wp2_with fail
  refine (axpy_other _ _ _ _ _ _ _ _ HE.out).mono ?_
  rintro e w2 ⟨rfl, rfl⟩
  go_wp2_with fail
  go_ret
  exact ⟨rfl, b1⟩

theorem conv_at {w : World} {a : Option Addr} {n cap : Nat} {l : List Nat} (h : Sl w a cap l) (hn : l.length = n) : (convert 22 9 (.slice a n cap)).run Try.prog w = .ok (.string (strOf l)) w := by
  subst hn; exact conv_sl w a cap l h

/-- Behind W (which lies in w) a new list, l, of n bytes, at block B. -/
def NewAt (W w : World) (B n : Nat) (l : List Nat) : Prop := (l.length = n ∧ Sl w (some ⟨B, 0, none⟩) n l) ∧ Below W.heap.size W w
theorem conv_new {W w : World} {B n : Nat} {l : List Nat} (h : NewAt W w B n l) : (convert 22 9 (.slice (some ⟨B, 0, none⟩) n n)).run Try.prog w = .ok (.string (strOf l)) w := conv_at h.1.2 h.1.1
theorem conv_new_alloc {W w : World} {B n : Nat} {l : List Nat} (h : NewAt W w B n l) (o : Obj) : (convert 22 9 (.slice (some ⟨B, 0, none⟩) n n)).run Try.prog (w.alloc o) = .ok (.string (strOf l)) (w.alloc o) :=
  conv_at (h.1.2.below ((Below.refl _ _).alloc (Nat.le_refl _) o)) h.1.1
theorem zero_sl (w : World) (n : Nat) (hn : n ≤ maxLen) : Sl (w.alloc (.cells (rowArr n zV) 5)) (some ⟨w.heap.size, 0, none⟩) n (List.replicate n 0) := by
  have hr := Row.new_whole w (rowArr n zV) 5 (vOf (List.replicate n 0)) w.heap.size n rfl (by
    apply Array.ext_getElem?
    intro i
    by_cases hi : i < n
    · simp [rowArr, hi, zV, vOf, byteV, List.getD]
    · simp [rowArr, hi])
  exact hr.sl (by simp) (fun x hx => by rw [List.eq_of_mem_replicate hx]; omega) hn
theorem below_alloc {W w : World} {o : Obj} (h : Below W.heap.size W w) : Below W.heap.size W (w.alloc o) := h.alloc h.size o

theorem scale_at (a : Option Addr) (cap : Nat) (n : Nat) (l : List Nat) (c : Nat) (w : World) (hl : l.length ≤ 1000000) (hc : c < 256) (hs : Sl w a cap l) {W : World} (hb : Below W.heap.size W w) :
    Calls Try.prog 8 #[.slice a l.length cap, .int .u8 (c : Int)] w fun e w' => e = .returned (.slice (some ⟨w.heap.size, 0, none⟩) l.length l.length) ∧ Hid (NewAt w w' w.heap.size l.length (scaleN l c)) ∧ Below W.heap.size W w' :=
  (scale_any a cap l c w hl hc hs).mono fun _ _ ⟨h1, h2⟩ => ⟨h1, ⟨⟨scaleN_len l c, by
    have h := h2
    rw [← scaleN_len l c] at h ⊢
    exact h.sl (scaleN_byte l c hs.byte) (by rw [scaleN_len]; exact hl)⟩, h2.below⟩, hb.trans (h2.below.mono hb.size)⟩

theorem plus_at (a a2 : Option Addr) (cap cap2 : Nat) (l m : List Nat) (c : Nat) (w : World) (hl : m.length ≤ 1000000) (hc : c < 256) (he : l.length = m.length) (hs : Sl w a cap l) (hs2 : Sl w a2 cap2 m) {W : World} (hb : Below W.heap.size W w) :
    Calls Try.prog 7 #[.slice a l.length cap, .slice a2 m.length cap2, .int .u8 (c : Int)] w fun e w' => e = .returned (.slice (some ⟨w.heap.size, 0, none⟩) l.length l.length) ∧ Hid (NewAt w w' w.heap.size l.length (plusN l m c)) ∧ Below W.heap.size W w' :=
  (plus_any a a2 cap cap2 l m c w hl hc (by omega) hs hs2).mono fun _ _ ⟨h1, h2⟩ => ⟨h1, ⟨⟨plusN_len l m c (by omega), by
    have h := h2
    have hn := plusN_len l m c (show l.length ≤ m.length by omega)
    rw [← hn] at h ⊢
    exact h.sl (plusN_byte l m c hs.byte hs2.byte) (by rw [hn]; omega)⟩, h2.below⟩, hb.trans (h2.below.mono hb.size)⟩

theorem plus_zeros (l : List Nat) (c : Nat) : plusN (List.replicate l.length 0) l c = scaleN l c := by
  apply List.ext_getElem
  · simp [plusN, scaleN]
  · intro i h1 h2
    simp [plusN, scaleN]

theorem plus_zero_at (B : Nat) (a2 : Option Addr) (cap2 : Nat) (m : List Nat) (c : Nat) (w : World) (hl : m.length ≤ 1000000) (hc : c < 256) (hs : Sl w (some ⟨B, 0, none⟩) m.length (List.replicate m.length 0)) (hs2 : Sl w a2 cap2 m) {W : World} (hb : Below W.heap.size W w) :
    Calls Try.prog 7 #[.slice (some ⟨B, 0, none⟩) m.length m.length, .slice a2 m.length cap2, .int .u8 (c : Int)] w fun e w' => e = .returned (.slice (some ⟨w.heap.size, 0, none⟩) m.length m.length) ∧ Hid (NewAt w w' w.heap.size m.length (scaleN m c)) ∧ Below W.heap.size W w' := by
  have h := plus_at (some ⟨B, 0, none⟩) a2 m.length cap2 (List.replicate m.length 0) m c w hl hc (by simp) hs hs2 hb
  rw [plus_zeros, List.length_replicate] at h
  exact h

set_option maxRecDepth 100000 in
set_option maxHeartbeats 1000000 in
theorem vectorAdds_same (a a2 : Option Addr) (cap cap2 : Nat) (l m : List Nat) (c : Nat) (hc : c < 256) (h1 : l.length ≤ 5000) (he : l.length = m.length) (w : World) (hs : Sl w a cap l) (hs2 : Sl w a2 cap2 m) :
    Calls Try.prog 3 #[.slice a l.length cap, .slice a2 m.length cap2, .int .u8 (c : Int)] w fun e w' => e = .returned (.bool true) ∧ Below w.heap.size w w' := by
  have HS := Lib.hid hs
  have HS2 := Lib.hid hs2
  have hne : ((l.length : Int) != (m.length : Int)) = false := by simp; omega
  have h2 : m.length ≤ 5000 := by omega
  have HE := Lib.hid he
  clear hs hs2 he
  go_enter Try.func3, Try.ntmps3
  go_wp2_with fail
  refine (awake_any _).mono ?_
  rintro e w1 ⟨rfl, b1⟩
  go_wp2_with fail
  refine (axpy_same _ _ _ _ _ _ _ _ (by omega) hc HE.out (HS.out.below b1) (HS2.out.below b1)).mono ?_
  rintro e w2 ⟨rfl, hn2⟩
  have b2 : Below w.heap.size w w2 := b1.trans (hn2.below.mono b1.size)
  have hlen := plusN_len l m c (by have := HE.out; omega)
  have hsx : Sl w2 (some ⟨w1.heap.size, 0, none⟩) l.length (plusN l m c) := by
    have h := hn2
    rw [← hlen] at h ⊢
    exact h.sl (plusN_byte l m c HS.out.byte HS2.out.byte) (by rw [hlen]; omega)
  have HX := Lib.hid hsx
  clear hsx hlen hn2
  have B2 := Lib.hid b2
  clear b2 b1
  have hmk := make_row l.length (by omega)
  have HSa := Lib.hid (HS.out.below B2.out)
  have HSb := Lib.hid (HS2.out.below B2.out)
  have HP := Lib.hid (plusN_len l m c (by have := HE.out; omega))
  have hl6 : l.length ≤ 1000000 := by omega
  have hm6 : m.length ≤ 1000000 := by omega
  have hcx : ∀ d os, (convert 22 9 (.slice (some ⟨w1.heap.size, 0, none⟩) l.length l.length)).run Try.prog (Sort.grow (redrawn w2 d) os) = .ok (.string (strOf (plusN l m c))) (Sort.grow (redrawn w2 d) os) := fun d os => conv_at (HX.out.below (below_regrown w2 d os)) HP.out
  go_wp2_with fail
  refine grow_begin (by kernel_rfl) ?_
  refine grow_take (by kernel_rfl) [0, 1, 2, 3, 4, 5, 6, 7] 19 _ _ (by kernel_rfl) ?_
  simp only [opsAt, List.getElem?_toArray, List.getElem?_cons_succ, List.getElem?_cons_zero]
  repeat (first | go_big_quiet_step (fail) | quiet_step (fail))
  refine wpQuiet_nil ?_
  intro w' hw'
  have hb' := below_of_up hw'
  refine grow_one 8 (by kernel_rfl) hw' (fun K hK => ?_)
  simp only [stepOf, List.getElem?_toArray, List.getElem?_cons_succ, List.getElem?_cons_zero]
  go_simp
  go_at_call 7
  refine (plus_at a a2 cap cap2 l m c _ hm6 hc HE.out (HSa.out.below hb') (HSb.out.below hb') hb').mono ?_
  rintro e w3 ⟨rfl, HN3, hb3⟩
  refine hK.out _ _ HN3.out.2 ?_
  clear hK K
  generalize w'.heap.size = b1 at *
  have hcp : ∀ d os, (convert 22 9 (.slice (some ⟨b1, 0, none⟩) l.length l.length)).run Try.prog (Sort.grow (redrawn w3 d) os) = .ok (.string (strOf (plusN l m c))) (Sort.grow (redrawn w3 d) os) := fun d os => conv_at (HN3.out.1.2.below (below_regrown w3 d os)) HP.out
  clear hcx HN3
  refine grow_take (by kernel_rfl) [9, 10, 11, 12, 13, 14, 17, 18, 20, 21] 8 _ _ (by kernel_rfl) ?_
  simp only [opsAt, List.getElem?_toArray, List.getElem?_cons_succ, List.getElem?_cons_zero]
  repeat (first | go_big_quiet_step (fail) | quiet_step (fail))
  refine wpQuiet_nil ?_
  intro w4 hw4
  have hb4 := below_of_up hw4
  refine grow_all [15, 19] (by kernel_rfl) (by simp) hw4 (fun i hi K hK => ?_)
  simp only [List.mem_cons, List.not_mem_nil, or_false] at hi
  rcases hi with rfl | rfl
  all_goals simp only [stepOf, List.getElem?_toArray, List.getElem?_cons_succ, List.getElem?_cons_zero]
  · go_simp
    go_at_call 8
    have hb24 : Below w2.heap.size w2 w4 := hb3.trans (hb4.mono hb3.size)
    refine (scale_at a cap 0 l c _ hl6 hc (HSa.out.below hb24) hb24).mono ?_
    rintro e w5 ⟨rfl, HN5, hb5⟩
    refine hK.out _ _ HN5.out.2 ?_
    clear hK K
    generalize w4.heap.size = b2 at *
    have hcs : ∀ d os, (convert 22 9 (.slice (some ⟨b2, 0, none⟩) l.length l.length)).run Try.prog (Sort.grow (redrawn w5 d) os) = .ok (.string (strOf (scaleN l c))) (Sort.grow (redrawn w5 d) os) := fun d os => conv_at (HN5.out.1.2.below (below_regrown w5 d os)) (scaleN_len l c)
    clear hcp HN5
    refine grow_take (by kernel_rfl) [16] 6 _ _ (by kernel_rfl) ?_
    simp only [opsAt, List.getElem?_toArray, List.getElem?_cons_succ, List.getElem?_cons_zero]
    repeat (first | go_big_quiet_step (fail) | quiet_step (fail))
    refine wpQuiet_nil ?_
    intro w6 hw6
    have hb6 := below_of_up hw6
    have hb26 : Below w2.heap.size w2 w6 := hb5.trans (hb6.mono hb5.size)
    refine grow_one 19 (by kernel_rfl) hw6 (fun K hK => ?_)
    simp only [stepOf, List.getElem?_toArray, List.getElem?_cons_succ, List.getElem?_cons_zero]
    go_simp
    refine hK.out _ _ ((Below.refl _ _).alloc (Nat.le_refl _) _) ?_
    clear hK K hcs
    have hz := zero_sl w6 l.length (by unfold maxLen; omega)
    have hb27 := below_alloc (o := .cells (rowArr l.length zV) 5) hb26
    generalize w6.alloc (.cells (rowArr l.length zV) 5) = w7 at *
    generalize w6.heap.size = b3 at *
    intro w8 hw8
    have hb8 := below_of_up hw8
    have hb28 : Below w2.heap.size w2 w8 := hb27.trans (hb8.mono hb27.size)
    refine grow_one 22 (by kernel_rfl) hw8 (fun K hK => ?_)
    simp only [stepOf, List.getElem?_toArray, List.getElem?_cons_succ, List.getElem?_cons_zero]
    go_simp
    go_at_call 7
    refine (plus_zero_at b3 a cap l c _ hl6 hc (hz.below hb8) (HSa.out.below hb28) hb28).mono ?_
    rintro e w9 ⟨rfl, HN9, hb9⟩
    refine hK.out _ _ HN9.out.2 ?_
    clear hK K
    generalize w8.heap.size = b4 at *
    have hct : ∀ d os, (convert 22 9 (.slice (some ⟨b4, 0, none⟩) l.length l.length)).run Try.prog (Sort.grow (redrawn w9 d) os) = .ok (.string (strOf (scaleN l c))) (Sort.grow (redrawn w9 d) os) := fun d os => conv_at (HN9.out.1.2.below (below_regrown w9 d os)) (scaleN_len l c)
    clear HN9
    refine grow_take (by kernel_rfl) [23, 24, 25, 26] 0 _ _ (by kernel_rfl) ?_
    simp only [opsAt, List.getElem?_toArray, List.getElem?_cons_succ, List.getElem?_cons_zero]
    repeat (first | go_big_quiet_step (fail) | quiet_step (fail))
    refine wpQuiet_nil ?_
    intro w10 hw10
    have hb10 := below_of_up hw10
    refine grow_done (by kernel_rfl) ?_
    go_wp2_with fail
    go_ret
    exact ⟨rfl, B2.out.trans ((hb9.trans (hb10.mono hb9.size)).mono B2.out.size)⟩
  · go_simp
    have hb24 : Below w2.heap.size w2 w4 := hb3.trans (hb4.mono hb3.size)
    refine hK.out _ _ ((Below.refl _ _).alloc (Nat.le_refl _) _) ?_
    clear hK K hcp
    have hz := zero_sl w4 l.length (by unfold maxLen; omega)
    have hb25 := below_alloc (o := .cells (rowArr l.length zV) 5) hb24
    generalize w4.alloc (.cells (rowArr l.length zV) 5) = w5 at *
    generalize w4.heap.size = b3 at *
    intro w6 hw6
    have hb6 := below_of_up hw6
    have hb26 : Below w2.heap.size w2 w6 := hb25.trans (hb6.mono hb25.size)
    have hz6 := hz.below hb6
    refine grow_one 15 (by kernel_rfl) hw6 (fun K hK => ?_)
    simp only [stepOf, List.getElem?_toArray, List.getElem?_cons_succ, List.getElem?_cons_zero]
    go_simp
    go_at_call 8
    refine (scale_at a cap 0 l c _ hl6 hc (HSa.out.below hb26) hb26).mono ?_
    rintro e w7 ⟨rfl, HN7, hb7⟩
    refine hK.out _ _ HN7.out.2 ?_
    clear hK K
    have hz7 := hz6.below HN7.out.2
    generalize w6.heap.size = b2 at *
    have hcs : ∀ d os, (convert 22 9 (.slice (some ⟨b2, 0, none⟩) l.length l.length)).run Try.prog (Sort.grow (redrawn w7 d) os) = .ok (.string (strOf (scaleN l c))) (Sort.grow (redrawn w7 d) os) := fun d os => conv_at (HN7.out.1.2.below (below_regrown w7 d os)) (scaleN_len l c)
    clear HN7
    refine grow_take (by kernel_rfl) [16] 5 _ _ (by kernel_rfl) ?_
    simp only [opsAt, List.getElem?_toArray, List.getElem?_cons_succ, List.getElem?_cons_zero]
    repeat (first | go_big_quiet_step (fail) | quiet_step (fail))
    refine wpQuiet_nil ?_
    intro w8 hw8
    have hb8 := below_of_up hw8
    have hb28 : Below w2.heap.size w2 w8 := hb7.trans (hb8.mono hb7.size)
    clear hcs
    refine grow_one 22 (by kernel_rfl) hw8 (fun K hK => ?_)
    simp only [stepOf, List.getElem?_toArray, List.getElem?_cons_succ, List.getElem?_cons_zero]
    go_simp
    go_at_call 7
    refine (plus_zero_at b3 a cap l c _ hl6 hc (hz7.below hb8) (HSa.out.below hb28) hb28).mono ?_
    rintro e w9 ⟨rfl, HN9, hb9⟩
    refine hK.out _ _ HN9.out.2 ?_
    clear hK K
    generalize w8.heap.size = b4 at *
    have hct : ∀ d os, (convert 22 9 (.slice (some ⟨b4, 0, none⟩) l.length l.length)).run Try.prog (Sort.grow (redrawn w9 d) os) = .ok (.string (strOf (scaleN l c))) (Sort.grow (redrawn w9 d) os) := fun d os => conv_at (HN9.out.1.2.below (below_regrown w9 d os)) (scaleN_len l c)
    clear HN9
    refine grow_take (by kernel_rfl) [23, 24, 25, 26] 0 _ _ (by kernel_rfl) ?_
    simp only [opsAt, List.getElem?_toArray, List.getElem?_cons_succ, List.getElem?_cons_zero]
    repeat (first | go_big_quiet_step (fail) | quiet_step (fail))
    refine wpQuiet_nil ?_
    intro w10 hw10
    have hb10 := below_of_up hw10
    refine grow_done (by kernel_rfl) ?_
    go_wp2_with fail
    go_ret
    exact ⟨rfl, B2.out.trans ((hb9.trans (hb10.mono hb9.size)).mono B2.out.size)⟩

theorem vectorAdds_walk (a a2 : Option Addr) (cap cap2 : Nat) (l m : List Nat) (c : Nat) (hc : c < 256) (w : World) (hs : Sl w a cap l) (hs2 : Sl w a2 cap2 m) :
    Calls Try.prog 3 #[.slice a l.length cap, .slice a2 m.length cap2, .int .u8 (c : Int)] w fun e w' => e = .returned (.bool true) ∧ Below w.heap.size w w' := by
  by_cases h1 : 5000 < l.length
  · exact vectorAdds_big _ _ _ _ _ _ _ hs.lt hs2.lt _ (.inl h1)
  · by_cases h2 : 5000 < m.length
    · exact vectorAdds_big _ _ _ _ _ _ _ hs.lt hs2.lt _ (.inr ⟨by omega, h2⟩)
    · by_cases he : l.length = m.length
      · exact vectorAdds_same _ _ _ _ _ _ _ hc (by omega) he _ hs hs2
      · exact vectorAdds_other _ _ _ _ _ _ _ (by omega) (by omega) he _

end Go.Proofs.Ytjodogiknhgpcaa
