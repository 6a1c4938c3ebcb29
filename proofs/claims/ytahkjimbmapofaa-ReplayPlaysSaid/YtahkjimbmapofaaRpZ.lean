/-
  Package replay: lists of deeds and of slots, up to the first error.
-/
import Derived.Test.YtahkjimbmapofaaRpY
namespace Go.Proofs.Ytahkjimbmapofaa
open Go.ChangeShapes Go.WideShapes Go.ChangeAt Go.RowKit Go.Joins
set_option linter.unusedVariables false

theorem Even.few {m L : Nat} {X : Rws} (h : Even m L X) (hm : m ≤ 40) (hL : L ≤ 100) : fewC X = true :=
  fewC_iff.2 ⟨by rw [h.rows]; exact hm, fun x hx => by rw [h.len x hx]; exact hL⟩
theorem Even.alike {m L : Nat} {X : Rws} (h : Even m L X) : alikeB X = true :=
  alikeB_iff.2 fun x hx => by
    have h0 : 0 < X.length := List.length_pos_of_mem hx
    rw [h.len x hx, getR h0, h.len _ (List.getElem_mem h0)]

set_option maxRecDepth 100000 in
set_option maxHeartbeats 2000000 in
theorem eachDeed_any (B : Nat) (w : World) (b : Nat) (rows : Rws) (L : Nat) (hb : Brd B w b rows) (hE : Even rows.length L rows) (hm : rows.length ≤ 40) (hL : L ≤ 100) (da : Option Addr) (dc : Nat) (D : Dk) (hD : ∀ w', Below B w w' → Dri w' da dc D) (hd : D.length ≤ 200) :
    Calls Try.prog 14 #[.slice da D.length dc, .func (.func 15) #[.pointer (some ⟨b, 0, none⟩)] #[]] w fun e w' =>
      Below B w w' ∧ ((deedsIn rows.length D ∧ e = .returned (.int .i64 0) ∧ Brd B w' b (playR D rows)) ∨ (¬ deedsIn rows.length D ∧ e = .returned (.int .i64 1))) := by
  have HD := Lib.hid hD
  have HE := Lib.hid hE
  have HB0 : Hid (Below B w w) := Below.refl _ _
  have HV0 : Hid (Brd B w b (playR (D.take 0) rows) ∧ deedsIn rows.length (D.take 0)) := ⟨hb, fun d hd => by simp at hd⟩
  have h1 := hD w HB0.out
  have hd1 := h1.len
  have hd2 : dc ≤ 9223372036854775807 := by have := h1.most; unfold maxLen at this; omega
  clear hD hE hb h1
  go_enter Try.func14, Try.ntmps14
  go_wp2_with fail
  go_loopw [10] (fun i wr => ∃ k : Nat, k ≤ D.length ∧ i = .int .i64 k ∧ Hid (Brd B wr b (playR (D.take k) rows) ∧ deedsIn rows.length (D.take k)) ∧ Hid (Below B w wr)) (fun i _ => D.length - (intOf i).toNat)
  case atStart => exact ⟨0, by omega, rfl, HV0, HB0⟩
  case round =>
    obtain ⟨k, hk, rfl, HV, HB⟩ := hrel
    clear HV0 HB0
    by_cases hlt : k < D.length
    · obtain ⟨db, doff, rfl, hdb2, e0, e1, e2⟩ := dri_one (HD.out _ HB.out) hlt
      have hrng := (HD.out _ HB.out).rng _ (List.getElem_mem hlt)
      have hkz : (k : Int) < (D.length : Int) := by omega
      have HN := Lib.hid (playR_next (rows := rows) hlt)
      have HIN : Hid (inS rows.length D[k].1 ∧ inS rows.length D[k].2.1 → deedsIn rows.length (D.take (k + 1))) := fun h => deedsIn_next hlt HV.out.2 h
      have HNI : Hid (¬ (inS rows.length D[k].1 ∧ inS rows.length D[k].2.1) → ¬ deedsIn rows.length D) := fun h h2 => h (h2 _ (List.getElem_mem hlt))
      have hX := playR_even HE.out k (by omega) HV.out.2
      have hXl := hX.rows
      have hXf := hX.few hm hL
      have hXa := hX.alike
      have hvb := HV.out.1
      obtain ⟨X, hXX⟩ : ∃ X, X = playR (D.take k) rows := ⟨_, rfl⟩
      rw [← hXX] at hvb HN hX hXl hXf hXa
      obtain ⟨zt, hzt⟩ : ∃ z, z = D[k].1 := ⟨_, rfl⟩
      obtain ⟨zf, hzf⟩ : ∃ z, z = D[k].2.1 := ⟨_, rfl⟩
      obtain ⟨c, hzc⟩ : ∃ z, z = D[k].2.2 := ⟨_, rfl⟩
      have HDK : Hid (deedR X D[k] = deedR X (zt, zf, c)) := by show _ = _; rw [hzt, hzf, hzc]
      rw [HDK.out] at HN
      rw [← hzt] at e0 hrng HIN HNI
      rw [← hzf] at e1 hrng HIN HNI
      rw [← hzc] at e2 hrng
      have hal : Below wr.heap.size wr (wr.alloc (.cells #[.int .i64 zt, .int .i64 zf, .int .u8 (c : Int)] 33)) := (Below.refl _ _).alloc (Nat.le_refl _) _
      have hdo := bdDo_any B _ b X zt zf c (hvb.keep hal) hXf hXa ⟨hrng.1, hrng.2.1⟩ ⟨hrng.2.2.1, hrng.2.2.2.1⟩ hrng.2.2.2.2
      have HBA := Lib.hid (HB.out.trans (hal.mono hvb.base))
      have HDO := Lib.hid hdo
      have HXL := Lib.hid hXl
      clear hzt hzf hzc HDK hXX HV hX hXl hXf hXa hvb hal hdo hrng HB
      go_wp2_with fail
      (with_reducible refine HDO.out.mono ?_)
      rintro e w2 ⟨hlow, ⟨g1, g2, rfl, h4⟩ | ⟨g1, rfl⟩⟩
      · rw [HXL.out] at g1 g2
        have HVN : Hid (Brd B w2 b (playR (D.take (k + 1)) rows) ∧ deedsIn rows.length (D.take (k + 1))) := ⟨by rw [HN.out]; exact h4, HIN.out ⟨g1, g2⟩⟩
        have HBN := Lib.hid (HBA.out.trans hlow)
        clear hlow g1 g2 h4 HN HIN HNI HBA HDO e0 e1 e2 hdb2
        go_wp2_with fail
        go_roundw
        case rel => exact ⟨k + 1, by omega, by go_num, HVN, HBN⟩
        case measure => simp [intOf]; omega
      · rw [HXL.out] at g1
        have HNO := Lib.hid (HNI.out g1)
        have HBN := Lib.hid (HBA.out.trans hlow)
        clear hlow g1 HN HIN HNI HBA HDO e0 e1 e2 hdb2
        go_wp2_with fail
        go_ret
        exact ⟨HBN.out, .inr ⟨HNO.out, rfl⟩⟩
    · obtain rfl : k = D.length := by omega
      rw [List.take_length] at HV
      go_wp2_with fail
      go_ret
      exact ⟨HB.out, .inl ⟨HV.out.2, rfl, HV.out.1⟩⟩

set_option maxRecDepth 100000 in
theorem bdAsk_any (w : World) (B b : Nat) (rows : Rws) (z : Int) (hb : Brd B w b rows) (h4 : rows.length ≤ 1000) (h1 : -9223372036854775808 ≤ z ∧ z ≤ 9223372036854775807) :
    Calls Try.prog 17 #[.pointer (some ⟨b, 0, none⟩), .int .i64 z] w fun e w' => w = w' ∧ ((inS rows.length z ∧ e = .returned (.int .i64 0)) ∨ (¬ inS rows.length z ∧ e = .returned (.int .i64 1))) := by
  by_cases h : inS rows.length z
  · have HH := Lib.hid (has_in hb h4 h)
    have HI := Lib.hid h
    clear h hb
    go_enter Try.func17, Try.ntmps17
    go_wp2_with fail
    (with_reducible refine HH.out.mono ?_)
    rintro e w' ⟨rfl, rfl⟩
    clear HH
    go_wp2_with fail
    go_ret
    exact ⟨rfl, .inl ⟨HI.out, rfl⟩⟩
  · have HH := Lib.hid (has_out hb h4 h1 h)
    have HI := Lib.hid h
    clear h hb
    go_enter Try.func17, Try.ntmps17
    go_wp2_with fail
    (with_reducible refine HH.out.mono ?_)
    rintro e w' ⟨rfl, rfl⟩
    clear HH
    go_wp2_with fail
    go_ret
    exact ⟨rfl, .inr ⟨HI.out, rfl⟩⟩

set_option maxRecDepth 100000 in
set_option maxHeartbeats 1000000 in
theorem eachInt_any (w : World) (B b : Nat) (rows : Rws) (hb : Brd B w b rows) (h4 : rows.length ≤ 1000) (wa : Option Addr) (wc : Nat) (Wh : List Int) (hW : Is w wa wc Wh) (hw : Wh.length ≤ 100) :
    Calls Try.prog 16 #[.slice wa Wh.length wc, .func (.func 17) #[.pointer (some ⟨b, 0, none⟩)] #[]] w fun e w' =>
      w = w' ∧ ((slotsIn rows.length Wh ∧ e = .returned (.int .i64 0)) ∨ (¬ slotsIn rows.length Wh ∧ e = .returned (.int .i64 1))) := by
  have HW := Lib.hid hW
  have HBD := Lib.hid hb
  have hd1 := hW.len
  have hd2 : wc ≤ 9223372036854775807 := by have := hW.most; unfold maxLen at this; omega
  have H0 : Hid (slotsIn rows.length (Wh.take 0)) := fun x hx => by simp at hx
  clear hW hb
  go_enter Try.func16, Try.ntmps16
  go_wp2_with fail
  go_loop [10] (fun i => ∃ k : Nat, k ≤ Wh.length ∧ i = .int .i64 k ∧ Hid (slotsIn rows.length (Wh.take k))) (fun i => Wh.length - (intOf i).toNat)
  case atStart => exact ⟨0, by omega, rfl, H0⟩
  case round =>
    obtain ⟨k, hk, rfl, HI⟩ := hrel
    clear H0
    by_cases hlt : k < Wh.length
    · have hkz : (k : Int) < (Wh.length : Int) := by omega
      have HSN := Lib.hid (slotsIn_next (m := rows.length) hlt)
      have HNO : Hid (¬ inS rows.length Wh[k] → ¬ slotsIn rows.length Wh) := fun h h2 => h (h2 _ (List.getElem_mem hlt))
      obtain ⟨wb, wo, rfl, hwb2, ew⟩ := HW.out.some hlt
      have hwr := HW.out.rng _ (List.getElem_mem hlt)
      obtain ⟨x, hx⟩ : ∃ x, x = Wh[k] := ⟨_, rfl⟩
      rw [← hx] at ew hwr HSN HNO
      have HA := Lib.hid (bdAsk_any w B b rows x HBD.out h4 hwr)
      clear hx hwr
      go_wp2_with fail
      (with_reducible refine HA.out.mono ?_)
      rintro e w2 ⟨rfl, ⟨g1, rfl⟩ | ⟨g1, rfl⟩⟩
      · have HN := Lib.hid (HSN.out.2 ⟨HI.out, g1⟩)
        clear g1 HSN HNO HA
        go_wp2_with fail
        go_round
        case rel => exact ⟨k + 1, by omega, by go_num, HN⟩
        case measure => simp [intOf]; omega
      · have HN := Lib.hid (HNO.out g1)
        clear g1 HSN HNO HA
        go_wp2_with fail
        go_ret
        exact ⟨rfl, .inr ⟨HN.out, rfl⟩⟩
    · obtain rfl : k = Wh.length := by omega
      rw [List.take_length] at HI
      go_wp2_with fail
      go_ret
      exact ⟨rfl, .inl ⟨HI.out, rfl⟩⟩
end Go.Proofs.Ytahkjimbmapofaa
