/-
  The laws of layer 4 (vector), walked.
-/
import Derived.Test.YtjodogiknhgpcaaVecDot
import Derived.Deep.RegionHeld3
namespace Go.Proofs.Ytjodogiknhgpcaa
open Go.ChangeShapes Go.WideShapes Go.ChangeAt Go.RowKit
set_option linter.unusedVariables false

theorem one_sl (w : World) : Sl (w.alloc (.cells #[.int .u8 1] 5)) (some ⟨w.heap.size, 0, none⟩) 1 [1] :=
  (Row.new_whole w #[.int .u8 1] 5 (vOf [1]) _ 1 rfl rfl).sl rfl (by simp [IsByte]) (by unfold maxLen; omega)

theorem one_sl' (w : World) (B : Nat) (h : B = w.heap.size) : Sl (w.alloc (.cells #[.int .u8 1] 5)) (some ⟨B, 0, none⟩) 1 [1] := by
  subst h; exact one_sl w

theorem awake_any (w : World) : Calls Try.prog 5 #[] w fun e w' => e = .returned (.bool true) ∧ Below w.heap.size w w' := by
  go_enter Try.func5, Try.ntmps5
  go_wp2_with fail
  refine (axpy_other none (some ⟨w.heap.size, 0, none⟩) 0 1 0 1 1 _ (by omega)).mono ?_
  rintro e w1 ⟨rfl, rfl⟩
  go_wp2_with fail
  refine (zero_any (some ⟨w.heap.size + 1, 0, none⟩) 1 [1] _ (one_sl' _ _ (by simp))).mono ?_
  rintro e w1 ⟨rfl, rfl⟩
  rw [show zeroB [1] = false from rfl]
  go_wp2_with fail
  refine (zero_any none 0 [] _ (nil_sl _)).mono ?_
  rintro e w1 ⟨rfl, rfl⟩
  rw [show zeroB [] = true from rfl]
  go_wp2_with fail
  go_ret
  exact ⟨rfl, ((Below.refl _ _).alloc (Nat.le_refl _) _).alloc (by simp) _⟩

theorem refMul_quiet (a b : Nat) (ha : a < 256) (hb : b < 256) (w : World) :
    Calls Try.prog 11 #[.int .u8 (a : Int), .int .u8 (b : Int)] w fun e w' => e = .returned (.int .u8 ((mulN a b : Nat) : Int)) ∧ w' = w := refMul_still a b ha hb w
theorem below_drewN {B : Nat} {W w : World} (h : Below B W w) (n : Nat) : Below B W (w.drewN n) := ⟨h.os, h.tape, h.output, h.size, h.block⟩

theorem zeroTo_step {l : List Nat} {k : Nat} (h1 : k < l.length) : zeroTo l (k + 1) = (zeroTo l k && (l[k] == 0)) := by
  simp [zeroTo, List.getD, h1]

set_option maxRecDepth 100000 in
set_option maxHeartbeats 1000000 in
theorem vectorDots_walk (a a2 : Option Addr) (cap cap2 : Nat) (l m : List Nat) (w : World) (hs : Sl w a cap l) (hs2 : Sl w a2 cap2 m) :
    Calls Try.prog 4 #[.slice a l.length cap, .slice a2 m.length cap2] w fun e w' => e = .returned (.bool true) ∧ Below w.heap.size w w' := by
  have HS := Lib.hid hs
  have HS2 := Lib.hid hs2
  have hl1 := hs.lt
  have hl2 := hs2.lt
  clear hs hs2
  by_cases hbig : 5000 < l.length ∨ 5000 < m.length
  · have key : ∀ h : (5000 < l.length) ∨ (l.length ≤ 5000 ∧ 5000 < m.length), Calls Try.prog 4 #[.slice a l.length cap, .slice a2 m.length cap2] w fun e w' => e = .returned (.bool true) ∧ Below w.heap.size w w' := by
      rintro (h | ⟨h, h2⟩)
      all_goals
        go_enter Try.func4, Try.ntmps4
        go_wp2_with fail
        refine (awake_any _).mono ?_
        rintro e w1 ⟨rfl, b1⟩
        go_wp2_with fail
        refine (awake_any _).mono ?_
        rintro e w2 ⟨rfl, b2⟩
        go_wp2_with fail
        go_ret
        exact ⟨rfl, b1.trans (b2.mono b1.size)⟩
    exact key (by omega)
  · have h1 : l.length ≤ 5000 := by omega
    have h2 : m.length ≤ 5000 := by omega
    clear hbig
    go_enter Try.func4, Try.ntmps4
    go_wp2_with fail
    refine (awake_any _).mono ?_
    rintro e w1 ⟨rfl, b1⟩
    go_wp2_with fail
    by_cases he : l.length = m.length
    case neg =>
     have hne : ((l.length : Int) != (m.length : Int)) = true := by simp; omega
     have HE := Lib.hid he
     clear he
     refine (dot_other _ _ _ _ _ _ _ HE.out).mono ?_
     rintro e w2 ⟨rfl, rfl⟩
     go_wp2_with fail
     have HSa := Lib.hid (HS.out.below b1)
     go_loop [7, 32] (fun z i => ∃ k : Nat, ∃ t : Bool, k ≤ l.length ∧ i = .int .i64 k ∧ Hid (t = zeroTo l k) ∧ z = .bool t) (fun _ i => l.length - (intOf i).toNat)
     case atStart => exact ⟨0, true, by omega, rfl, rfl, rfl⟩
     case round =>
       obtain ⟨k, t, hk, rfl, HT, rfl⟩ := hrel
       by_cases hlt : k < l.length
       · obtain ⟨b, off, rfl, hb⟩ := HSa.out.some hlt
         have hck := hb k hlt
         have hx : l[k] < 256 := HS.out.byte _ (List.getElem_mem hlt)
         have HZ := Lib.hid (zeroTo_step hlt)
         clear hb
         cases t
         · have HZ2 : Hid (false = zeroTo l (k + 1)) := by rw [HZ.out, ← HT.out]; exact rfl
           clear HZ
           go_wp2_with fail
           go_round
           case rel => exact ⟨k + 1, false, by omega, by go_num, HZ2, rfl⟩
           case measure => simp [intOf]; omega
         · by_cases h0 : l[k] = 0
           · have HZ2 : Hid (true = zeroTo l (k + 1)) := by rw [HZ.out, ← HT.out, h0]; exact rfl
             rw [h0] at hck
             have hn : (((0 : Nat) : Int) == 0) = true := rfl
             clear HZ h0 hx
             go_wp2_with fail
             go_round
             case rel => exact ⟨k + 1, true, by omega, by go_num, HZ2, rfl⟩
             case measure => simp [intOf]; omega
           · have HZ2 : Hid (false = zeroTo l (k + 1)) := by
               have : (l[k] == 0) = false := by simpa using h0
               rw [HZ.out, ← HT.out, this]; exact rfl
             generalize l[k] = x at *
             have hn : ((x : Int) == 0) = false := by simp; omega
             clear HZ h0
             go_wp2_with fail
             go_round
             case rel => exact ⟨k + 1, false, by omega, by go_num, HZ2, rfl⟩
             case measure => simp [intOf]; omega
       · obtain rfl : k = l.length := by omega
         have HB : Hid (zeroB l = t) := HT.out.symm
         go_wp2_with fail
         refine (zero_any _ _ _ _ HSa.out).mono ?_
         rintro e w2 ⟨rfl, rfl⟩
         rw [HB.out]
         have ht : (t != t) = false := by simp
         cases t
         all_goals
           go_wp2_with fail
           go_ret
           exact ⟨rfl, b1⟩
    case pos =>
     have hne : ((l.length : Int) != (m.length : Int)) = false := by simp; omega
     have HE := Lib.hid he
     clear he
     refine (dot_same _ _ _ _ _ _ _ HE.out (HS.out.below b1) (HS2.out.below b1)).mono ?_
     rintro e w2 ⟨rfl, rfl⟩
     have hdl : dotN l m < 256 := dotTo_lt l m HS.out.byte _
     have HDN := Lib.hid (show dotN l m = dotTo l m l.length from rfl)
     generalize dotN l m = d at *
     go_wp2_with fail
     have HSa := Lib.hid (HS.out.below b1)
     go_loop [7, 32] (fun z i => ∃ k : Nat, ∃ t : Bool, k ≤ l.length ∧ i = .int .i64 k ∧ Hid (t = zeroTo l k) ∧ z = .bool t) (fun _ i => l.length - (intOf i).toNat)
     case atStart => exact ⟨0, true, by omega, rfl, rfl, rfl⟩
     case round =>
       obtain ⟨k, t, hk, rfl, HT, rfl⟩ := hrel
       by_cases hlt : k < l.length
       · obtain ⟨b, off, rfl, hb⟩ := HSa.out.some hlt
         have hck := hb k hlt
         have hx : l[k] < 256 := HS.out.byte _ (List.getElem_mem hlt)
         have HZ := Lib.hid (zeroTo_step hlt)
         clear hb
         cases t
         · have HZ2 : Hid (false = zeroTo l (k + 1)) := by rw [HZ.out, ← HT.out]; exact rfl
           clear HZ
           go_wp2_with fail
           go_round
           case rel => exact ⟨k + 1, false, by omega, by go_num, HZ2, rfl⟩
           case measure => simp [intOf]; omega
         · by_cases h0 : l[k] = 0
           · have HZ2 : Hid (true = zeroTo l (k + 1)) := by rw [HZ.out, ← HT.out, h0]; exact rfl
             rw [h0] at hck
             have hn : (((0 : Nat) : Int) == 0) = true := rfl
             clear HZ h0 hx
             go_wp2_with fail
             go_round
             case rel => exact ⟨k + 1, true, by omega, by go_num, HZ2, rfl⟩
             case measure => simp [intOf]; omega
           · have HZ2 : Hid (false = zeroTo l (k + 1)) := by
               have : (l[k] == 0) = false := by simpa using h0
               rw [HZ.out, ← HT.out, this]; exact rfl
             generalize l[k] = x at *
             have hn : ((x : Int) == 0) = false := by simp; omega
             clear HZ h0
             go_wp2_with fail
             go_round
             case rel => exact ⟨k + 1, false, by omega, by go_num, HZ2, rfl⟩
             case measure => simp [intOf]; omega
       · obtain rfl : k = l.length := by omega
         have HB : Hid (zeroB l = t) := HT.out.symm
         go_wp2_with fail
         refine (zero_any _ _ _ _ HSa.out).mono ?_
         rintro e w2 ⟨rfl, rfl⟩
         rw [HB.out]
         have ht : (t != t) = false := by simp
         have HSb := Lib.hid (HS2.out.below b1)
         cases t
         all_goals
           go_wp2_with fail
           go_loopw [9, 61] (fun s i wr => ∃ k t : Nat, k ≤ l.length ∧ i = .int .i64 k ∧ Hid (t = dotTo l m k) ∧ t < 256 ∧ s = .int .u8 (t : Int) ∧ Hid (Below w1.heap.size w1 wr)) (fun _ i _ => l.length - (intOf i).toNat)
           case atStart => exact ⟨0, 0, by omega, rfl, rfl, by omega, rfl, Below.refl _ _⟩
           case round =>
             obtain ⟨k, t, hk, rfl, HT2, htl, rfl, HW⟩ := hrel
             by_cases hlt : k < l.length
             · have hlt2 : k < m.length := by rw [← HE.out]; exact hlt
               obtain ⟨b, off, rfl, hb⟩ := (HSa.out.below HW.out).some hlt
               obtain ⟨b2, off2, rfl, hb2⟩ := (HSb.out.below HW.out).some hlt2
               have hck := hb k hlt
               have hck2 := hb2 k hlt2
               have hx : l[k] < 256 := HS.out.byte _ (List.getElem_mem hlt)
               have hy : m[k] < 256 := HS2.out.byte _ (List.getElem_mem hlt2)
               have HD := Lib.hid (dotTo_succ l m k hlt hlt2)
               generalize l[k] = x at *
               generalize m[k] = y at *
               have hp := mulN_lt y hx
               have hp2 := xor_lt htl hp
               have hxor := xor8 t (mulN x y) htl hp
               have i1 : (0 : Int) ≤ (k : Int) := by omega
               have i2 : (k : Int) < (l.length : Int) := by omega
               have i3 : (k : Int) < (m.length : Int) := by omega
               clear hb hb2
               go_wp2_with fail
               go_quiet ((go_at_call 11; exact Calls.quiet_of_same (refMul_quiet _ _ hx hy _)))
               clear i1 i2 i3 hxor
               go_wp2_with fail
               go_roundw
               case rel => exact ⟨k + 1, t ^^^ mulN x y, by omega, by go_num, by rw [HD.out, ← HT2.out]; exact rfl, hp2, rfl, below_drewN HW.out _⟩
               case measure => simp [intOf]; omega
             · obtain rfl : k = l.length := by omega
               have HF : Hid (d = t) := HDN.out.trans HT2.out.symm
               have hd : ((d : Int) == (t : Int)) = true := by rw [HF.out]; simp
               go_wp2_with fail
               go_ret
               exact ⟨rfl, b1.trans (HW.out.mono b1.size)⟩

end Go.Proofs.Ytjodogiknhgpcaa
