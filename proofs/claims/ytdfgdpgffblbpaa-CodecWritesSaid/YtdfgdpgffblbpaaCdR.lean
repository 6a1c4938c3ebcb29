/-
  The law CodecReads, out of what package codec answers.
-/
import Derived.Test.YtdfgdpgffblbpaaCdA
import Derived.Test.YtdfgdpgffblbpaaCdW
import Derived.BigQuiet
import Derived.Deep.DeepCutAuto
import Derived.Deep.CutBlock
namespace Go.Proofs.Ytdfgdpgffblbpaa
open Go.ChangeShapes Go.WideShapes Go.ChangeAt Go.RowKit Go.Joins
set_option linter.unusedVariables false

/-- A part of a slice. -/
theorem sl_part {w : World} {a : Option Addr} {cap : Nat} {l : List Nat} (h : Sl w a cap l) {b off i n : Nat} (ha : a = some ⟨b, off, none⟩) (hi : i + n ≤ l.length) : Sl w (some ⟨b, off + i, none⟩) (cap - i) ((l.drop i).take n) := by
  have hlen : ((l.drop i).take n).length = n := by rw [List.length_take, List.length_drop]; omega
  refine ⟨fun x hx => h.byte x (List.mem_of_mem_drop (List.mem_of_mem_take hx)), by rw [hlen]; have := h.len; omega, Nat.le_trans (Nat.sub_le _ _) h.most, fun e => (by cases e), ?_⟩
  by_cases h0 : n = 0
  · subst h0; exact .inl (by simp)
  · obtain ⟨b', off', e, hb⟩ := h.some (k := 0) (by omega)
    rw [ha] at e
    cases e
    refine .inr ⟨b, off + i, rfl, fun j hj => ?_⟩
    rw [hlen] at hj
    have := hb (i + j) (by omega)
    rw [Nat.add_assoc, this]
    simp

theorem belowN {B : Nat} {a w : World} (h : Below B a w) (q : Nat) : Below B a (w.drewN q) := ⟨h.os, h.tape, h.output, h.size, h.block⟩
theorem conv_drewN {w : World} {a : Option Addr} {n cap : Nat} {l : List Nat} (h : Sl w a cap l) (hn : l.length = n) (k : Nat) : (convert 28 9 (.slice a n cap)).run Try.prog (w.drewN k) = .ok (.string (strOf l)) (w.drewN k) := by
  subst hn; exact conv_sl _ a cap l (h.drewN k)
theorem slice_n0 (w : World) : (Instr.sliceAt 28 (.slice none 0 0) (some (.int .i64 0)) (some (.int .i64 0)) none).run Try.prog w = .ok (.slice none 0 0) w := by rfl
theorem slice_s0 (ab ao cap : Nat) (sp : Option Nat) (w : World) : (Instr.sliceAt 28 (.slice (some ⟨ab, ao, sp⟩) 0 cap) (some (.int .i64 0)) (some (.int .i64 0)) none).run Try.prog w = .ok (.slice (some ⟨ab, ao, sp⟩) 0 cap) w := by
  go_simp
theorem gets_n {l : List Nat} {p q : Nat} (h1 : 1 ≤ q) (h6 : q ≤ 6) (hq : p + q ≤ l.length) : ansN (some (l.drop p)) (q : Int) = numN ((l.drop p).take q) ∧ restN (some (l.drop p)) (q : Int) = some (l.drop (p + q)) := by
  have e : gN (some (l.drop p)) (q : Int) = some ((l.drop p).take q, l.drop (p + q)) := by
    unfold gN takeI
    rw [if_pos ⟨by omega, by omega⟩]
    show (if _ then _ else _) = _
    rw [if_pos ⟨by omega, by rw [List.length_drop]; omega⟩, Int.toNat_natCast, List.drop_drop]
  exact ⟨by unfold ansN; rw [e]; rfl, by unfold restN; rw [e]; rfl⟩
theorem gets_no {l : List Nat} {p : Nat} {n : Int} (h : n < 1 ∨ 6 < n ∨ ((l.length : Int) - (p : Int)) < n) : ansN (some (l.drop p)) n = 0 ∧ restN (some (l.drop p)) n = none := by
  have e : gN (some (l.drop p)) n = none := by
    unfold gN takeI
    by_cases h1 : 1 ≤ n ∧ n ≤ 6
    · rw [if_pos h1]
      show (if _ then _ else _) = _
      rw [if_neg (by rw [List.length_drop]; omega)]
    · rw [if_neg h1]
  exact ⟨by unfold ansN; rw [e]; rfl, by unfold restN; rw [e]; rfl⟩
theorem gets_bad (n : Int) : ansN none n = 0 ∧ restN none n = none := by
  have e : gN none n = none := by unfold gN takeI; split <;> rfl
  exact ⟨by unfold ansN; rw [e]; rfl, by unfold restN; rw [e]; rfl⟩
theorem raws_n {l : List Nat} {p q : Nat} (hq : p + q ≤ l.length) : ansR (some (l.drop p)) (q : Int) = (l.drop p).take q ∧ restR (some (l.drop p)) (q : Int) = some (l.drop (p + q)) := by
  have e : takeI (some (l.drop p)) (q : Int) = some ((l.drop p).take q, l.drop (p + q)) := by
    unfold takeI
    show (if _ then _ else _) = _
    rw [if_pos ⟨by omega, by rw [List.length_drop]; omega⟩, Int.toNat_natCast, List.drop_drop]
  exact ⟨by unfold ansR; rw [e]; rfl, by unfold restR; rw [e]; rfl⟩
theorem raws_no {l : List Nat} {p : Nat} {n : Int} (hp : p ≤ l.length) (h : n < 0 ∨ ((l.length : Int) - (p : Int)) < n) : ansR (some (l.drop p)) n = [] ∧ restR (some (l.drop p)) n = none := by
  have e : takeI (some (l.drop p)) n = none := by
    unfold takeI
    show (if _ then _ else _) = _
    rw [if_neg (by rw [List.length_drop]; omega)]
  exact ⟨by unfold ansR; rw [e]; rfl, by unfold restR; rw [e]; rfl⟩
theorem raws_bad (n : Int) : ansR none n = [] ∧ restR none n = none := ⟨rfl, rfl⟩

set_option maxRecDepth 1000000 in
set_option maxHeartbeats 8000000 in
theorem codecReads_main {Od : (Nat → Prop) → World → Nat → Option (List Nat) → Nat → Prop} (HC : OutC Od) {Id : Nat → (Nat → Prop) → World → Nat → Option (List Nat) → Prop} (HI : InC Id)
    (a : Option Addr) (cap : Nat) (l : List Nat) (ia : Option Addr) (ic : Nat) (L : List Itm) (w : World) (hs : Sl w a cap l) (hL : Its w ia ic L) (hF : fewI L = true) (hl : l.length ≤ 5000) :
    Calls Try.prog 4 #[.slice a l.length cap, .slice ia L.length ic] w (TrueAnd w) := by
  have HA := Lib.hid (awake13_any HC w)
  have HJ := Lib.hid HI
  have HS := Lib.hid hs
  have HLI := Lib.hid hL
  have HFW : Hid (∀ w', Below w.heap.size w w' → Calls Try.prog 7 #[.slice ia L.length ic] w' fun e w'' => e = .returned (.bool true) ∧ w' = w'') := fun w' k => by
    have h := fewI_any ia ic L w' (hL.below k)
    rw [hF] at h; exact h
  have hl1 := hs.len
  have hl2 : cap ≤ 9223372036854775807 := by have := hs.most; unfold maxLen at this; omega
  have hL1 := hL.len
  have hL2 : ic ≤ 9223372036854775807 := by have := hL.most; unfold maxLen at this; omega
  have h100 := (fewI_iff.1 hF).1
  have hz5 : ¬ (5000 : Int) < (l.length : Int) := by omega
  have hd5 : decide ((5000 : Int) < (l.length : Int)) = false := decide_eq_false hz5
  clear HC HI hs hL hF
  go_enter Try.func4, Try.ntmps4
  go_wp2_with fail
  (with_reducible refine HA.out.mono ?_)
  rintro e w1 ⟨rfl, b1⟩
  have HB1 := Lib.hid b1
  have HF1 := Lib.hid (HFW.out w1 b1)
  have HN1 := Lib.hid (HJ.out.new w1 a cap l (HS.out.below b1) (by omega))
  clear b1 HA HFW
  go_wp2_with fail
  (with_reducible refine HF1.out.mono ?_)
  rintro e w2 ⟨rfl, rfl⟩
  clear HF1
  go_wp2_with fail
  (with_reducible refine HN1.out.mono ?_)
  rintro e w2 ⟨b, X, rfl, hid, b2⟩
  obtain ⟨B, hB⟩ : ∃ B, B = w1.heap.size := ⟨_, rfl⟩
  have hwB : w.heap.size ≤ B := by have := HB1.out.size; omega
  rw [← hB] at hid
  have HB2 := Lib.hid (HB1.out.trans (b2.mono HB1.out.size))
  have HI0 : Hid (∃ X, Id B X w2 b (some (l.drop 0))) := ⟨X, hid⟩
  have hBE := HI0
  clear hid b2 HN1 HB1 hB hBE
  go_wp2_with fail
  go_loopw [6, 7, 29] (fun at_ bad i wr => ∃ (k p : Nat) (s : Option (List Nat)), k ≤ L.length ∧ p ≤ l.length ∧ at_ = .int .i64 p ∧ bad = .bool s.isNone ∧ i = .int .i64 k ∧ Hid (s = some (l.drop p) ∨ (s = none ∧ p = l.length)) ∧ Hid (∃ X, Id B X wr b s) ∧ Hid (Below w.heap.size w wr)) (fun _ _ i _ => L.length - (intOf i).toNat)
  case atStart => exact ⟨0, 0, some (l.drop 0), by omega, by omega, rfl, rfl, rfl, .inl rfl, HI0, HB2⟩
  case round =>
    obtain ⟨k, p, s, hk, hp, rfl, rfl, rfl, HP, HD, HB⟩ := hrel
    clear HI0 HB2
    by_cases hlt : k < L.length
    · obtain ⟨ib, io, rfl, hib, ba, bc, t0, t1, t2, t3, tsl⟩ := its_one (HLI.out.below HB.out) hlt
      obtain ⟨hx1, hx2, hx3, _⟩ := HLI.out.rng _ (List.getElem_mem hlt)
      have hkz : (k : Int) < (L.length : Int) := by omega
      obtain ⟨kd, hkd⟩ : ∃ z, z = L[k].k := ⟨_, rfl⟩
      obtain ⟨n, hn⟩ : ∃ z, z = L[k].n := ⟨_, rfl⟩
      rw [← hkd] at t0 hx1
      rw [← hn] at t2 hx3
      have hn1 := hx3.1
      have hn2 := hx3.2
      have HN : Hid (i64R n) := hx3
      clear t1 t3 tsl hx2 hx3 hkd hn
      obtain ⟨X, hid⟩ := HD.out
      have HID := Lib.hid hid
      have HXL := Lib.hid (HJ.out.lt hid)
      clear hid HD
      go_upto_if 42 with fail
      go_cut [7] (fun s7 wx => ∃ s' : Option (List Nat), s7 = .bool s'.isNone ∧ Hid (s' = none ∨ ∃ q : Nat, n = (q : Int) ∧ p + q ≤ l.length ∧ s' = some (l.drop (p + q))) ∧ Hid (∃ X, Id B X wx b s') ∧ Hid (Below w.heap.size w wx))
      case first =>
        by_cases hk3 : (kd : Int) < 3
        · have d3 : decide ((kd : Int) < 3) = true := decide_eq_true hk3
          have HCN := Lib.hid (HJ.out.n B X wr b s n HID.out HN.out)
          go_wp2_with fail
          (with_reducible refine HCN.out.mono ?_)
          rintro e w3 ⟨rfl, X3, hid3, hx3, hfr3⟩
          have HB3 := Lib.hid (HB.out.trans (hfr3.below HB.out.size fun k hk hX => by have := (HXL.out k hX).1; omega))
          have HS3 := Lib.hid (HS.out.below HB3.out)
          clear hfr3 hx3 HCN
          rcases HP.out with rfl | ⟨rfl, rfl⟩
          · by_cases hgood : 1 ≤ n ∧ n ≤ 6 ∧ n ≤ (l.length : Int) - (p : Int)
            · obtain ⟨q, rfl⟩ : ∃ q : Nat, n = (q : Int) := ⟨n.toNat, by omega⟩
              obtain ⟨g1, g2⟩ := gets_n (l := l) (p := p) (q := q) (by omega) (by omega) (by omega)
              obtain ⟨z, hz⟩ : ∃ z, z = (l.drop p).take q := ⟨_, rfl⟩
              have hzl : z.length = q := by rw [hz, List.length_take, List.length_drop]; omega
              rw [g1, ← hz]
              rw [g2] at hid3
              have HI3 := Lib.hid hid3
              have c1 : decide ((q : Int) < 1) = false := decide_eq_false (by omega)
              have c2 : decide ((6 : Int) < (q : Int)) = false := decide_eq_false (by omega)
              have c3 : decide ((l.length : Int) - (p : Int) < (q : Int)) = false := decide_eq_false (by omega)
              have hpq : (p : Int) + (q : Int) ≤ (l.length : Int) := by omega
              obtain ⟨ab, ao, rfl, _⟩ := HS.out.some (k := 0) (by omega)
              have hpart := sl_part (i := p) (n := q) HS3.out rfl (by omega)
              rw [← hz] at hpart
              have hnm := number_any _ _ z w3 hpart (by omega)
              rw [hzl] at hnm
              have HNM := Lib.hid hnm
              have hy2 : numN z < 281474976710656 := by
                have h1 := numN_lt z hpart.byte
                have := pow6 (k := z.length) (by omega)
                omega
              obtain ⟨y, hy⟩ : ∃ y, y = numN z := ⟨_, rfl⟩
              rw [← hy] at HNM hy2 ⊢
              clear hid3 hpart g1 g2 hz hzl hnm hy
              go_wp2_with fail
              (with_reducible refine HNM.out.mono ?_)
              rintro e w4 ⟨rfl, rfl⟩
              go_wp2_with fail
              go_meet
              exact ⟨some (l.drop (p + q)), rfl, .inr ⟨q, rfl, by omega, rfl⟩, ⟨X3, HI3.out⟩, HB3.out⟩
            · obtain ⟨g1, g2⟩ := gets_no (l := l) (p := p) (n := n) (by omega)
              rw [g1]
              rw [g2] at hid3
              have HI3 := Lib.hid hid3
              clear hid3 g1 g2
              by_cases c1 : n < 1
              · have d1 : decide (n < 1) = true := decide_eq_true c1
                go_wp2_with fail
                go_meet
                exact ⟨none, rfl, .inl rfl, ⟨X3, HI3.out⟩, HB3.out⟩
              · have d1 : decide (n < 1) = false := decide_eq_false c1
                by_cases c2 : 6 < n
                · have d2 : decide (6 < n) = true := decide_eq_true c2
                  go_wp2_with fail
                  go_meet
                  exact ⟨none, rfl, .inl rfl, ⟨X3, HI3.out⟩, HB3.out⟩
                · have d2 : decide (6 < n) = false := decide_eq_false c2
                  have c3 : (l.length : Int) - (p : Int) < n := by omega
                  have d3 : decide ((l.length : Int) - (p : Int) < n) = true := decide_eq_true c3
                  go_wp2_with fail
                  go_meet
                  exact ⟨none, rfl, .inl rfl, ⟨X3, HI3.out⟩, HB3.out⟩
          · obtain ⟨g1, g2⟩ := gets_bad n
            rw [g1]
            rw [g2] at hid3
            have HI3 := Lib.hid hid3
            clear hid3 g1 g2
            go_wp2_with fail
            go_meet
            exact ⟨none, rfl, .inl rfl, ⟨X3, HI3.out⟩, HB3.out⟩
        · have d3 : decide ((kd : Int) < 3) = false := decide_eq_false hk3
          have HCN := Lib.hid (HJ.out.raw B X wr b s n HID.out HN.out)
          go_wp2_with fail
          (with_reducible refine HCN.out.mono ?_)
          rintro e w3 ⟨⟨ra, rc, rfl, hrs⟩, X3, hid3, hx3, hfr3⟩
          have HB3 := Lib.hid (HB.out.trans (hfr3.below HB.out.size fun k hk hX => by have := (HXL.out k hX).1; omega))
          have HS3 := Lib.hid (HS.out.below HB3.out)
          clear hfr3 hx3 HCN
          rcases HP.out with rfl | ⟨rfl, rfl⟩
          · by_cases hgood : 0 ≤ n ∧ n ≤ (l.length : Int) - (p : Int)
            · obtain ⟨q, rfl⟩ : ∃ q : Nat, n = (q : Int) := ⟨n.toNat, by omega⟩
              obtain ⟨g1, g2⟩ := raws_n (l := l) (p := p) (q := q) (by omega)
              obtain ⟨z, hz⟩ : ∃ z, z = (l.drop p).take q := ⟨_, rfl⟩
              have hzl : z.length = q := by rw [hz, List.length_take, List.length_drop]; omega
              rw [g1, ← hz] at hrs ⊢
              rw [g2] at hid3
              have HI3 := Lib.hid hid3
              have c1 : decide ((q : Int) < 0) = false := decide_eq_false (by omega)
              have c3 : decide ((l.length : Int) - (p : Int) < (q : Int)) = false := decide_eq_false (by omega)
              have hpq : (p : Int) + (q : Int) ≤ (l.length : Int) := by omega
              have cv1 := conv_drewN hrs hzl
              rw [hzl]
              have hqs : q ≤ 5000 := by omega
              have k1 : (0 : Int) ≤ (p : Int) + (q : Int) := by omega
              have k2 : (p : Int) + (q : Int) ≤ (cap : Int) := by omega
              have k3 : ((p : Int) + (q : Int)).toNat = p + q := by omega
              have k4 : (p : Int) ≤ (p : Int) + (q : Int) := by omega
              have k5 : p + q - p = q := by omega
              by_cases hl0 : l = []
              · subst hl0
                obtain rfl : p = 0 := by simpa using hp
                obtain rfl : q = 0 := by simp at hpq; omega
                obtain rfl : z = [] := List.length_eq_zero_iff.1 hzl
                have hnl : a = none → cap = 0 := fun e => (HS.out.none e).2
                clear k1 k2 k3 k4 k5 c3 g1 g2 hz hzl hrs hid3 hpq
                rcases a with _ | ⟨ab, ao, sp⟩
                · obtain rfl := hnl rfl
                  have cv2 := conv_drewN (n := 0) (nil_sl w3) rfl
                  have hs0 := slice_n0
                  have hw0 : IntKind.wrap .i64 0 = 0 := by decide
                  clear hnl
                  go_wp2_with fail
                  go_quiet (fail)
                  go_wp2_with fail
                  go_meet
                  exact ⟨some (([] : List Nat).drop (0 + 0)), rfl, .inr ⟨0, rfl, by omega, rfl⟩, ⟨X3, HJ.out.keep HI3.out (Fr.of_below (X := fun _ => False) (belowN (Below.refl _ _) _)) (fun _ _ h => h) (fun _ _ h => h)⟩, belowN HB3.out _⟩
                · by_cases hc0 : cap = 0
                  · subst hc0
                    have hs0 := slice_s0 ab ao 0 sp
                    have hw0 : IntKind.wrap .i64 0 = 0 := by decide
                    have cv2 := conv_drewN (w := w3) (n := 0) (a := some ⟨ab, ao, sp⟩) (cap := 0) (l := []) ⟨by simp [IsByte], by simp, by simp, fun e => (by cases e), .inl rfl⟩ rfl
                    clear hnl
                    go_wp2_with fail
                    go_quiet (fail)
                    go_wp2_with fail
                    go_meet
                    exact ⟨some (([] : List Nat).drop (0 + 0)), rfl, .inr ⟨0, rfl, by omega, rfl⟩, ⟨X3, HJ.out.keep HI3.out (Fr.of_below (X := fun _ => False) (belowN (Below.refl _ _) _)) (fun _ _ h => h) (fun _ _ h => h)⟩, belowN HB3.out _⟩
                  · have hs0 := slice_s0 ab ao cap sp
                    have hw0 : IntKind.wrap .i64 0 = 0 := by decide
                    have cv2 := conv_drewN (w := w3) (n := 0) (a := some ⟨ab, ao, sp⟩) (cap := cap) (l := []) ⟨by simp [IsByte], by simp, by unfold maxLen; omega, fun e => (by cases e), .inl rfl⟩ rfl
                    clear hnl
                    go_wp2_with fail
                    go_quiet (fail)
                    go_wp2_with fail
                    go_meet
                    exact ⟨some (([] : List Nat).drop (0 + 0)), rfl, .inr ⟨0, rfl, by omega, rfl⟩, ⟨X3, HJ.out.keep HI3.out (Fr.of_below (X := fun _ => False) (belowN (Below.refl _ _) _)) (fun _ _ h => h) (fun _ _ h => h)⟩, belowN HB3.out _⟩
              · obtain ⟨ab, ao, rfl, _⟩ := HS.out.some (k := 0) (List.length_pos_iff.2 hl0)
                by_cases hcp : cap = p
                · subst hcp
                  have hq0 : q = 0 := by omega
                  subst hq0
                  obtain rfl : z = [] := List.length_eq_zero_iff.1 hzl
                  have cv2 := conv_drewN (w := w3) (n := 0) (a := some ⟨ab, ao, none⟩) (cap := 0) (l := []) ⟨by simp [IsByte], by simp, by simp, fun e => (by cases e), .inl rfl⟩ rfl
                  clear hid3 g1 g2 hz hzl hrs k1 k2 k3 k4 k5
                  have c9 : decide ((l.length : Int) - (cap : Int) < 0) = false := decide_eq_false (by omega)
                  have k6 : (0 : Int) ≤ (cap : Int) := by omega
                  have hw0 : IntKind.wrap .i64 (cap : Int) = (cap : Int) := by
                    simp [IntKind.wrap, IntKind.signed, IntKind.bits]
                    omega
                  go_wp2_with fail
                  go_quiet (fail)
                  go_wp2_with fail
                  go_meet
                  exact ⟨some (l.drop (cap + 0)), rfl, .inr ⟨0, rfl, by omega, rfl⟩, ⟨X3, HJ.out.keep HI3.out (Fr.of_below (X := fun _ => False) (belowN (Below.refl _ _) _)) (fun _ _ h => h) (fun _ _ h => h)⟩, belowN HB3.out _⟩
                · have hpart := sl_part (i := p) (n := q) HS3.out rfl (by omega)
                  rw [← hz] at hpart
                  have cv2 := conv_drewN hpart hzl
                  clear hid3 hpart g1 g2 hz hzl hrs
                  go_wp2_with fail
                  go_quiet (fail)
                  go_wp2_with fail
                  go_meet
                  exact ⟨some (l.drop (p + q)), rfl, .inr ⟨q, rfl, by omega, rfl⟩, ⟨X3, HJ.out.keep HI3.out (Fr.of_below (X := fun _ => False) (belowN (Below.refl _ _) _)) (fun _ _ h => h) (fun _ _ h => h)⟩, belowN HB3.out _⟩
            · obtain ⟨g1, g2⟩ := raws_no (l := l) (p := p) (n := n) hp (by omega)
              rw [g1] at hrs ⊢
              rw [g2] at hid3
              have HI3 := Lib.hid hid3
              clear hid3 g1 g2 hrs
              by_cases c1 : n < 0
              · have d1 : decide (n < 0) = true := decide_eq_true c1
                go_wp2_with fail
                go_quiet (fail)
                go_wp2_with fail
                go_meet
                exact ⟨none, rfl, .inl rfl, ⟨X3, HJ.out.keep HI3.out (Fr.of_below (X := fun _ => False) (belowN (Below.refl _ _) _)) (fun _ _ h => h) (fun _ _ h => h)⟩, belowN HB3.out _⟩
              · have d1 : decide (n < 0) = false := decide_eq_false c1
                have c3 : (l.length : Int) - (p : Int) < n := by omega
                have d4 : decide ((l.length : Int) - (p : Int) < n) = true := decide_eq_true c3
                go_wp2_with fail
                go_quiet (fail)
                go_wp2_with fail
                go_meet
                exact ⟨none, rfl, .inl rfl, ⟨X3, HJ.out.keep HI3.out (Fr.of_below (X := fun _ => False) (belowN (Below.refl _ _) _)) (fun _ _ h => h) (fun _ _ h => h)⟩, belowN HB3.out _⟩
          · obtain ⟨g1, g2⟩ := raws_bad n
            rw [g1] at hrs ⊢
            rw [g2] at hid3
            have HI3 := Lib.hid hid3
            clear hid3 g1 g2 hrs
            go_wp2_with fail
            go_quiet (fail)
            go_wp2_with fail
            go_meet
            exact ⟨none, rfl, .inl rfl, ⟨X3, HJ.out.keep HI3.out (Fr.of_below (X := fun _ => False) (belowN (Below.refl _ _) _)) (fun _ _ h => h) (fun _ _ h => h)⟩, belowN HB3.out _⟩
      case rest =>
        obtain ⟨s', rfl, HQ, HD1, HB1⟩ := hcut
        obtain ⟨X1, hid1⟩ := HD1.out
        have HLOW : Hid (∀ {X : Nat → Prop} {w1 w2 : World}, (∀ k, X k → B ≤ k ∧ k < w1.heap.size) → Fr X w1 w2 → Below w.heap.size w w1 → Below w.heap.size w w2) := fun hx hf hb => hb.trans (hf.below hb.size fun k hk hX => by have := (hx k hX).1; omega)
        have HC1 := Lib.hid (HJ.out.bad B X1 wc b s' hid1)
        have HX1 := Lib.hid (HJ.out.lt hid1)
        clear hid1 HD1 HP HB HID HXL t0 t2
        rcases HQ.out with rfl | ⟨q, rfl, hpq, rfl⟩
        · go_wp2_with fail
          (with_reducible refine HC1.out.mono ?_)
          rintro e w3 ⟨rfl, X3, hid3, hx3, hf3⟩
          have HB3 := Lib.hid (HLOW.out HX1.out hf3 HB1.out)
          have HX3 := Lib.hid (HJ.out.lt hid3)
          have HC3 := Lib.hid (HJ.out.left B X3 w3 b none hid3)
          have hlf : leftI none = 0 := rfl
          rw [hlf] at HC3
          clear hid3 hx3 hf3 HC1 HX1 HB1 hlf
          go_wp2_with fail
          (with_reducible refine HC3.out.mono ?_)
          rintro e w4 ⟨rfl, X4, hid4, hx4, hf4⟩
          have HB4 := Lib.hid (HLOW.out HX3.out hf4 HB3.out)
          have HX4 := Lib.hid (HJ.out.lt hid4)
          have HC4 := Lib.hid (HJ.out.done B X4 w4 b none hid4)
          have hdn : decide (none = some ([] : List Nat)) = false := by simp
          rw [hdn] at HC4
          have hz0 : ((0 : Int) != (l.length : Int) - (l.length : Int)) = false := by simp
          clear hid4 hx4 hf4 HC3 HX3 HB3 hdn
          go_wp2_with fail
          (with_reducible refine HC4.out.mono ?_)
          rintro e w5 ⟨rfl, X5, hid5, hx5, hf5⟩
          have HB5 := Lib.hid (HLOW.out HX4.out hf5 HB4.out)
          have HI5 : Hid (∃ X, Id B X w5 b none) := ⟨X5, hid5⟩
          clear hid5 hx5 hf5 HC4 HX4 HB4
          go_wp2_with fail
          go_roundw
          case rel => first | exact ⟨k + 1, l.length, none, by omega, Nat.le_refl _, rfl, rfl, by go_num, .inr ⟨rfl, rfl⟩, HI5, HB5⟩ | ((repeat apply Exists.intro); exact ⟨⟨k + 1, l.length, none, by omega, Nat.le_refl _, rfl, rfl, by go_num, .inr ⟨rfl, rfl⟩, HI5, HB5⟩, rfl⟩)
          case measure => simp [intOf]; omega
        · have hpz : (p : Int) + (q : Int) ≤ (l.length : Int) := by omega
          have hlf : ((leftI (some (l.drop (p + q))) : Nat) : Int) = (l.length : Int) - ((p : Int) + (q : Int)) := by
            show (((l.drop (p + q)).length : Nat) : Int) = _
            rw [List.length_drop]; omega
          have HDN : Hid ((some (l.drop (p + q)) = some ([] : List Nat)) ↔ p + q = l.length) := by
            show _ ↔ _
            constructor
            · intro h
              have := congrArg List.length (Option.some.inj h)
              rw [List.length_drop] at this
              simp at this
              omega
            · intro h
              rw [List.drop_of_length_le (by omega)]
          have HC3 : Hid (∀ X w, Id B X w b (some (l.drop (p + q))) → Calls Try.prog 20 #[.pointer (some ⟨b, 0, none⟩)] w fun e w' => e = .returned (.int .i64 ((l.length : Int) - ((p : Int) + (q : Int)))) ∧ InPost Id B X w b (some (l.drop (p + q))) w') := fun X w h => by
            have h1 := HJ.out.left B X w b _ h
            rw [hlf] at h1
            exact h1
          have HC4 := Lib.hid (HJ.out.done B)
          obtain ⟨s4, hs4⟩ : ∃ s4, s4 = some (l.drop (p + q)) := ⟨_, rfl⟩
          have hnn : s4.isNone = false := by rw [hs4]; rfl
          have HS4 := Lib.hid hs4
          rw [← hs4] at HC1 HC3 HDN ⊢
          rw [hnn] at HC1 ⊢
          have hne : ((l.length : Int) - ((p : Int) + (q : Int)) != (l.length : Int) - ((p : Int) + (q : Int))) = false := by simp
          clear hlf hs4 HQ
          have hnd := Lib.hid hnn
          clear hnn
          go_wp2_with fail
          (with_reducible refine HC1.out.mono ?_)
          rintro e w3 ⟨rfl, X3, hid3, hx3, hf3⟩
          have HB3 := Lib.hid (HLOW.out HX1.out hf3 HB1.out)
          have HX3 := Lib.hid (HJ.out.lt hid3)
          have H3 := Lib.hid (HC3.out X3 w3 hid3)
          clear hid3 hx3 hf3 HC1 HX1 HB1 HC3
          go_wp2_with fail
          (with_reducible refine H3.out.mono ?_)
          rintro e w4 ⟨rfl, X4, hid4, hx4, hf4⟩
          have HB4 := Lib.hid (HLOW.out HX3.out hf4 HB3.out)
          have HX4 := Lib.hid (HJ.out.lt hid4)
          have h4 := HC4.out X4 w4 b s4 hid4
          clear hid4 hx4 hf4 H3 HX3 HB3 HC4
          by_cases hend : p + q = l.length
          · have hd : decide (s4 = some ([] : List Nat)) = true := decide_eq_true (HDN.out.2 hend)
            rw [hd] at h4
            have H4 := Lib.hid h4
            have hdz : (((p : Int) + (q : Int)) == (l.length : Int)) = true := by simp; omega
            clear h4 hd hend
            go_wp2_with fail
            (with_reducible refine H4.out.mono ?_)
            rintro e w5 ⟨rfl, X5, hid5, hx5, hf5⟩
            have HB5 := Lib.hid (HLOW.out HX4.out hf5 HB4.out)
            have HI5 : Hid (∃ X, Id B X w5 b s4) := ⟨X5, hid5⟩
            have HS5 : Hid (s4 = some (l.drop (p + q)) ∨ (s4 = none ∧ p + q = l.length)) := .inl HS4.out
            clear hid5 hx5 hf5 H4 HX4 HB4
            go_wp2_with fail
            go_roundw
            case rel => first | exact ⟨k + 1, p + q, s4, by omega, by omega, by go_num, by rw [hnd.out], by go_num, HS5, HI5, HB5⟩ | ((repeat apply Exists.intro); exact ⟨⟨k + 1, p + q, s4, by omega, by omega, by go_num, by rw [hnd.out], by go_num, HS5, HI5, HB5⟩, rfl⟩)
            case measure => simp [intOf]; omega
          · have hd : decide (s4 = some ([] : List Nat)) = false := decide_eq_false fun h => hend (HDN.out.1 h)
            rw [hd] at h4
            have H4 := Lib.hid h4
            have hdz : (((p : Int) + (q : Int)) == (l.length : Int)) = false := by simp; omega
            clear h4 hd hend
            go_wp2_with fail
            (with_reducible refine H4.out.mono ?_)
            rintro e w5 ⟨rfl, X5, hid5, hx5, hf5⟩
            have HB5 := Lib.hid (HLOW.out HX4.out hf5 HB4.out)
            have HI5 : Hid (∃ X, Id B X w5 b s4) := ⟨X5, hid5⟩
            have HS5 : Hid (s4 = some (l.drop (p + q)) ∨ (s4 = none ∧ p + q = l.length)) := .inl HS4.out
            clear hid5 hx5 hf5 H4 HX4 HB4
            go_wp2_with fail
            go_roundw
            case rel => first | exact ⟨k + 1, p + q, s4, by omega, by omega, by go_num, by rw [hnd.out], by go_num, HS5, HI5, HB5⟩ | ((repeat apply Exists.intro); exact ⟨⟨k + 1, p + q, s4, by omega, by omega, by go_num, by rw [hnd.out], by go_num, HS5, HI5, HB5⟩, rfl⟩)
            case measure => simp [intOf]; omega
    · obtain rfl : k = L.length := by omega
      go_wp2_with fail
      go_ret
      exact ⟨rfl, HB.out⟩

set_option maxRecDepth 1000000 in
set_option maxHeartbeats 2000000 in
theorem codecReads_out {Od : (Nat → Prop) → World → Nat → Option (List Nat) → Nat → Prop} (HC : OutC Od)
    (a : Option Addr) (cap : Nat) (l : List Nat) (ia : Option Addr) (ic : Nat) (L : List Itm) (w : World) (hs : Sl w a cap l) (hL : Its w ia ic L) (hout : fewI L = false ∨ 5000 < l.length) :
    Calls Try.prog 4 #[.slice a l.length cap, .slice ia L.length ic] w (TrueAnd w) := by
  have HA : Hid (∀ w, Calls Try.prog 6 #[] w fun e w' => e = .returned (.bool true) ∧ Below w.heap.size w w') := fun w => awake13_any HC w
  have HFW : Hid (∀ w', Below w.heap.size w w' → Calls Try.prog 7 #[.slice ia L.length ic] w' fun e w'' => e = .returned (.bool (fewI L)) ∧ w' = w'') := fun w' k => fewI_any ia ic L w' (hL.below k)
  have hl1 := hs.len
  have hl2 : cap ≤ 9223372036854775807 := by have := hs.most; unfold maxLen at this; omega
  have hL1 := hL.len
  have hL2 : ic ≤ 9223372036854775807 := by have := hL.most; unfold maxLen at this; omega
  clear HC hs hL
  go_enter Try.func4, Try.ntmps4
  go_wp2_with fail
  (with_reducible refine (HA.out w).mono ?_)
  rintro e w1 ⟨rfl, b1⟩
  have HB1 := Lib.hid b1
  have HF1 := Lib.hid (HFW.out w1 b1)
  clear b1 HFW
  go_wp2_with fail
  (with_reducible refine HF1.out.mono ?_)
  rintro e w2 ⟨rfl, rfl⟩
  clear HF1
  by_cases hF : fewI L = true
  · rw [hF]
    have h5 : 5000 < l.length := hout.resolve_left (by rw [hF]; decide)
    have hz5 : (5000 : Int) < (l.length : Int) := by omega
    have hd5 : decide ((5000 : Int) < (l.length : Int)) = true := decide_eq_true hz5
    clear hout hF
    go_wp2_with fail
    (with_reducible refine (HA.out w1).mono ?_)
    rintro e w3 ⟨rfl, b3⟩
    have HB3 := Lib.hid (HB1.out.trans (b3.mono HB1.out.size))
    clear b3 HA
    go_wp2_with fail
    go_ret
    exact ⟨rfl, HB3.out⟩
  · rw [Bool.not_eq_true] at hF
    rw [hF]
    clear hout hF
    go_wp2_with fail
    (with_reducible refine (HA.out w1).mono ?_)
    rintro e w3 ⟨rfl, b3⟩
    have HB3 := Lib.hid (HB1.out.trans (b3.mono HB1.out.size))
    clear b3 HA
    go_wp2_with fail
    go_ret
    exact ⟨rfl, HB3.out⟩
theorem codecReads_walk {Od : (Nat → Prop) → World → Nat → Option (List Nat) → Nat → Prop} (HC : OutC Od) {Id : Nat → (Nat → Prop) → World → Nat → Option (List Nat) → Prop} (HI : InC Id)
    (a : Option Addr) (cap : Nat) (l : List Nat) (ia : Option Addr) (ic : Nat) (L : List Itm) (w : World) (hs : Sl w a cap l) (hL : Its w ia ic L) :
    Calls Try.prog 4 #[.slice a l.length cap, .slice ia L.length ic] w (TrueAnd w) := by
  by_cases hF : fewI L = true
  · by_cases hl : l.length ≤ 5000
    · exact codecReads_main HC HI a cap l ia ic L w hs hL hF hl
    · exact codecReads_out HC a cap l ia ic L w hs hL (.inr (by omega))
  · exact codecReads_out HC a cap l ia ic L w hs hL (.inl (by simpa using hF))
end Go.Proofs.Ytdfgdpgffblbpaa
