/-
  The library's merge in place at package dense's lines: any two stretches.
-/
import Derived.Test.YtiglmoggpjgmbaaSymT
import Derived.Deep.DeepCutAuto
namespace Go.Proofs.Ytiglmoggpjgmbaa
open Go.ChangeShapes Go.WideShapes Go.ChangeAt Go.RowKit Go.Joins
set_option linter.unusedVariables false

set_option maxHeartbeats 8000000 in
set_option maxRecDepth 1000000 in
theorem sym_mid (N : Nat) (IH : ∀ (B cap a m b : Nat) (d0 d : Array LV) (w0 w : World), b - a < N → RL w0 B d0 → d0.size = d.size → SL w0 B d w → a < m → m < b → b ≤ d.size → d.size ≤ 1000000 → Sort.SortedIn ltR a m d → Sort.SortedIn ltR m b d →
      Calls Try.prog 48 #[.slice (some ⟨B, 0, none⟩) d.size cap, .int .i64 a, .int .i64 m, .int .i64 b, .func (.func 35) #[] #[]] w (SymPst w0 B a b d))
    (B cap a m b : Nat) (d0 d : Array LV) (w0 w : World) (hN : b - a < N + 1) (R : RL w0 B d0) (hs : d0.size = d.size) (S : SL w0 B d w) (ham : a + 1 < m) (hmb : m + 1 < b) (hb : b ≤ d.size) (hsz : d.size ≤ 1000000) (hL : Sort.SortedIn ltR a m d) (hR : Sort.SortedIn ltR m b d) :
    Calls Try.prog 48 #[.slice (some ⟨B, 0, none⟩) d.size cap, .int .i64 a, .int .i64 m, .int .i64 b, .func (.func 35) #[] #[]] w (SymPst w0 B a b d) := by
  have mixed : Try.prog.follows .mixedOrders = true := by kernel_rfl
  have S0 : Aside (SL w0 B d w) := S
  have HL := Lib.hid hL
  have HR := Lib.hid hR
  have HI := Lib.hid IH
  have ha1 : a ≤ 1000000 := by omega
  have hb1 : b ≤ 1000000 := by omega
  have hm1 : m ≤ 1000000 := by omega
  have hq : (((m : Int) - (a : Int)) == 1) = false := by simp; omega
  have hq2 : (((b : Int) - (m : Int)) == 1) = false := by simp; omega
  obtain ⟨M, hM⟩ : ∃ M, M = (a + b) / 2 := ⟨_, rfl⟩
  obtain ⟨p, hp⟩ : ∃ p, p + 1 = M + m := ⟨M + m - 1, by omega⟩
  obtain ⟨lo, hlo⟩ : ∃ lo, lo = if M < m then M + m - b else a := ⟨_, rfl⟩
  obtain ⟨hi, hhi⟩ : ∃ hi, hi = if M < m then M else m := ⟨_, rfl⟩
  have E : Ends a m b lo hi p := ⟨by omega, by omega, by rw [← hM]; exact hp, by rw [← hM]; exact hlo, by rw [← hM]; exact hhi⟩
  have E2 := E.le
  rw [← hM] at E2
  have HE := Lib.hid E
  have HMd := Lib.hid hM
  have HP := Lib.hid hp
  have m1 : a < M := by omega
  have m2 : M < b := by omega
  have p1 : p ≤ 2000000 := by omega
  have z1 : ((a : Int) + (b : Int)) / 2 = (M : Int) := by omega
  have z2 : (M : Int) + (m : Int) - 1 = (p : Int) := by omega
  obtain ⟨g1, g2, g3, g4, g5⟩ := E2
  have z3 : M < m → (M : Int) + (m : Int) - (b : Int) = (lo : Int) := fun h => by rw [if_pos h] at hlo; omega
  have z4 : M < m → M = hi := fun h => by rw [if_pos h] at hhi; omega
  have z5 : ¬ M < m → a = lo := fun h => by rw [if_neg h] at hlo; omega
  have z6 : ¬ M < m → m = hi := fun h => by rw [if_neg h] at hhi; omega
  have Z := Lib.hid (And.intro z3 (And.intro z4 (And.intro z5 z6)))
  clear S hL hR hM hp hlo hhi E IH z3 z4 z5 z6
  go_enter Try.func48, Try.ntmps48
  go_upto_if 140 with fail
  go_cut [20, 21] (fun s20 s21 wx => s20 = .int .i64 lo ∧ s21 = .int .i64 hi ∧ w = wx)
  case first =>
    by_cases hw : M < m
    · have hwz : (M : Int) < (m : Int) := by omega
      have y1 := Z.out.1 hw
      have YY := Lib.hid (Z.out.2.1 hw)
      go_wp2_with fail
      go_meet
      exact ⟨rfl, by rw [YY.out], rfl⟩
    · have hwz : ¬ (M : Int) < (m : Int) := by omega
      have y1 := Z.out.2.2.1 hw
      have y2 := Z.out.2.2.2 hw
      have YY := Lib.hid (And.intro y1 y2)
      clear y1 y2
      go_wp2_with fail
      go_meet
      exact ⟨by rw [YY.out.1], by rw [YY.out.2], rfl⟩
  case rest =>
    obtain ⟨rfl, rfl, rfl⟩ := hcut
    clear z1 Z
    go_wp2_with fail
    go_loopg [20, 21] (hi - lo) (fun g s10 s11 wr => ∃ (s r : Nat), s10 = .int .i64 s ∧ s11 = .int .i64 r ∧ s ≤ r ∧ r ≤ hi ∧ lo ≤ s ∧ r - s ≤ g ∧ Aside (SL w0 B d wr) ∧ Aside (Seek ltR lo hi p s r d))
    case atStart => exact ⟨lo, hi, rfl, rfl, g2, Nat.le_refl _, Nat.le_refl _, Nat.le_refl _, S0, Seek.start g2 d⟩
    case round =>
      clear S0
      obtain ⟨s, r, rfl, rfl, hsr, hrh, hls, hg, S1, K1⟩ := hrel
      by_cases hlt : s < r
      · have hltz : (s : Int) < (r : Int) := by omega
        obtain ⟨c, hc⟩ : ∃ c, c = (s + r) / 2 := ⟨_, rfl⟩
        have h1 : s ≤ c := by omega
        have h2 : c < r := by omega
        obtain ⟨q, hq3⟩ : ∃ q, q = p - c := ⟨_, rfl⟩
        have h3 : c ≤ p := by have := HP.out; omega
        have h4 : q < d.size := by have := HP.out; omega
        have h5 : c < d.size := by omega
        have zc : ((s : Int) + (r : Int)) / 2 = (c : Int) := by omega
        have zq : (p : Int) - (c : Int) = (q : Int) := by omega
        have hqz : (q : Int) < (d.size : Int) := by omega
        have hwq : IntKind.i64.wrap (q : Int) = (q : Int) := by rw [IntKind.wrap_i64]; omega
        have hcz : (c : Int) < (d.size : Int) := by omega
        obtain ⟨c0, c1, c2⟩ := sl_grown S1.out R (by omega) (i := q) (by omega)
        obtain ⟨b0, b1, b2⟩ := sl_grown S1.out R (by omega) (i := c) (by omega)
        have HQ := Lib.hid hq3
        clear hc hq3
        cases hlv : ltR d[q]! d[c]! with
        | false =>
          have K2 : Aside (Seek ltR lo hi p (c + 1) r d) := K1.out.up swo_ltR HE.out h1 h2 HL.out HR.out (by rw [← HQ.out]; exact hlv)
          obtain ⟨t, ht, hcall⟩ := byLen_no hlv
          have htd : (!decide (t < 0)) = true := by simp; omega
          clear hlv K1
          generalize d[q]! = x at *
          generalize d[c]! = y at *
          go_wp2_with fail
          go_quiet_grown (first | (go_at_call 35; refine Calls.grown_of (hcall _)))
          have S3 : Aside (SL w0 B d (Sort.grow (wr.drewN nq) osq)) := S1.out.grown nq osq
          clear c0 c1 c2 b0 b1 b2 hcall S1
          generalize Sort.grow (wr.drewN nq) osq = w2 at S3 ⊢
          go_wp2_with fail
          go_roundg (r - (c + 1))
          case measure => omega
          case rel => exact ⟨c + 1, r, by first | rfl | go_num | (congr 1; omega), rfl, by omega, hrh, by omega, Nat.le_refl _, S3, K2⟩
        | true =>
          have K2 : Aside (Seek ltR lo hi p s c d) := K1.out.down swo_ltR HE.out h1 h2 HL.out HR.out (by rw [← HQ.out]; exact hlv)
          obtain ⟨t, ht, hcall⟩ := byLen_yes hlv
          have htd : (!decide (t < 0)) = false := by simp; omega
          clear hlv K1
          generalize d[q]! = x at *
          generalize d[c]! = y at *
          go_wp2_with fail
          go_quiet_grown (first | (go_at_call 35; refine Calls.grown_of (hcall _)))
          have S3 : Aside (SL w0 B d (Sort.grow (wr.drewN nq) osq)) := S1.out.grown nq osq
          clear c0 c1 c2 b0 b1 b2 hcall S1
          generalize Sort.grow (wr.drewN nq) osq = w2 at S3 ⊢
          go_wp2_with fail
          go_roundg (c - s)
          case measure => omega
          case rel => exact ⟨s, c, rfl, by first | rfl | go_num | (congr 1; omega), h1, by omega, hls, Nat.le_refl _, S3, K2⟩
      · obtain rfl : s = r := by omega
        have hltz : ¬ (s : Int) < (s : Int) := by omega
        obtain ⟨en, hen⟩ : ∃ en, en = p + 1 - s := ⟨_, rfl⟩
        have e1 : m ≤ en := by have := HP.out; omega
        have e2 : M ≤ en := by have := HP.out; omega
        have e3 : en ≤ b := by have := HP.out; omega
        have e4 : s ≤ m := by omega
        have e5 : s ≤ M := by omega
        have e6 : a ≤ s := by omega
        have e7 : s = m ∨ m = en → s < m → ¬ m < en := fun h h1 => by omega
        have ze : (M : Int) + (m : Int) - (s : Int) = (en : Int) := by have := HP.out; omega
        have HEN := Lib.hid hen
        have Q0 : Aside (∀ d', Rot s m en d d' → Quart ltR a s M en b d') := fun d' hd => by
          have := K1.out.quart swo_ltR HE.out HL.out HR.out (d' := d') (by rw [← HEN.out]; exact hd)
          rw [← HMd.out, ← HEN.out] at this
          exact this
        clear hen K1 e7
        obtain ⟨t, ht⟩ : ∃ t, t = (decide (s < m) && decide (m < en)) := ⟨_, rfl⟩
        have HT := Lib.hid ht
        clear ht
        go_upto_region 39 with fail
        go_cut [185] (fun s185 wx => s185 = .bool t ∧ wr = wx)
        case first =>
          by_cases c1 : s < m
          · have c1d : decide ((s : Int) < (m : Int)) = true := by simp; omega
            by_cases c2 : m < en
            · have c2d : decide ((m : Int) < (en : Int)) = true := by simp; omega
              obtain rfl : t = true := by rw [HT.out]; simp; omega
              go_wp2_with fail
              go_meet
              exact ⟨rfl, rfl⟩
            · have c2d : decide ((m : Int) < (en : Int)) = false := by simp; omega
              obtain rfl : t = false := by rw [HT.out]; simp; omega
              go_wp2_with fail
              go_meet
              exact ⟨rfl, rfl⟩
          · have c1d : decide ((s : Int) < (m : Int)) = false := by simp; omega
            obtain rfl : t = false := by rw [HT.out]; simp; omega
            go_wp2_with fail
            go_meet
            exact ⟨rfl, rfl⟩
        case rest =>
          obtain ⟨rfl, rfl⟩ := hcut
          go_upto_if 185 with fail
          go_cut [] (fun wx => Aside (∃ d', SL w0 B d' wx ∧ Rot s m en d d'))
          case first =>
            cases t with
            | true =>
              have c1 : s < m ∧ m < en := by have := HT.out; simp at this; omega
              have hrot := rotate_any B cap s m en d0 d (.func (.func 35) #[] #[]) w0 wr R hs S1.out c1.1 c1.2 (by omega) hsz
              go_wp2_with fail
              (with_reducible refine hrot.mono ?_)
              rintro e w2 ⟨rfl, d2, S2, W2⟩
              have F : Aside (∃ d', SL w0 B d' w2 ∧ Rot s m en d d') := ⟨d2, S2, W2⟩
              clear S2 W2 hrot S1
              go_wp2_with fail
              go_meet
              exact F
            | false =>
              have c1 : ¬ (s < m ∧ m < en) := by have := HT.out; simp at this; omega
              have F : Aside (∃ d', SL w0 B d' wr ∧ Rot s m en d d') := ⟨d, S1.out, Rot.none e4 e1 (by omega) d⟩
              go_wp2_with fail
              go_meet
              exact F
          case rest =>
            obtain ⟨d1, S2, hrot⟩ := hcut
            have Q1 := Q0.out d1 hrot
            have hds : d1.size = d.size := hrot.perm.1
            have hp1 : Sort.PermIn a b d d1 := pm_mono (by omega) (by omega) hb hrot.perm
            have D1 : Aside (SL w0 B d1 wc ∧ Quart ltR a s M en b d1 ∧ d1.size = d.size ∧ Sort.PermIn a b d d1) := ⟨S2, Q1, hds, hp1⟩
            clear S2 hrot Q1 hds hp1 S1 Q0 HT
            go_step
            exact sym_first N HI B cap a m b M s en d0 d d1 w0 _ hN R hs hb hsz ha1 hb1 m1 m2 e2 e3 e5 e6 D1 _ _ _ _ _ _ _ _ _ _ _ _ _ _ _ _ _ _ _ _ _ _ _ _ _ _ _ _ _ _ _ _ _ _ _ _ _ _ _ _ _ _ _ _ _ _ _ _ _ _ _ _ _ _ _ _ _ _ _ _ _ _ _ _ _ _ _ _ _ _ _ _ _ _ _ _ _ _ _ _ _ _ _ _ _ _ _ _ _ _ _ _ _ _ _ _ _ _ _ _ _ _ _ _ _ _ _ _ _ _ _ _ _ _ _ _ _ _ _ _ _ _ _ _ _ _ _ _ _ _ _ _ _ _ _ _ _ _ _ _ _ _ _ _ _ _ _ _ _ _ _ _ _ _ _ _ _ _ _ _ _ _ _ _ _ _ _ _ _ _ _ _ _ _ _ _ _ _ _ _ _ _ _ _ _ _ _ _ _ _ _ _ _ _ _ _ _ _ _

theorem sym_any (N : Nat) : ∀ (B cap a m b : Nat) (d0 d : Array LV) (w0 w : World), b - a < N → RL w0 B d0 → d0.size = d.size → SL w0 B d w → a < m → m < b → b ≤ d.size → d.size ≤ 1000000 → Sort.SortedIn ltR a m d → Sort.SortedIn ltR m b d →
      Calls Try.prog 48 #[.slice (some ⟨B, 0, none⟩) d.size cap, .int .i64 a, .int .i64 m, .int .i64 b, .func (.func 35) #[] #[]] w (SymPst w0 B a b d) := by
  induction N with
  | zero => intro B cap a m b d0 d w0 w h; omega
  | succ N ih =>
    intro B cap a m b d0 d w0 w hN R hs S ham hmb hb hsz hL hR
    by_cases h1 : m = a + 1
    · exact sym_left B cap a m b d0 d w0 w R hs S h1 hmb hb hsz (by rw [← h1]; exact hR)
    · by_cases h2 : b = m + 1
      · exact sym_right B cap a m b d0 d w0 w R hs S (by omega) h2 hb hsz hL
      · exact sym_mid N ih B cap a m b d0 d w0 w hN R hs S (by omega) (by omega) hb hsz hL hR
end Go.Proofs.Ytiglmoggpjgmbaa
