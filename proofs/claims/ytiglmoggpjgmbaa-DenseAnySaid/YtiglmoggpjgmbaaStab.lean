/-
  The library's stable sort at package dense's lines: a permutation, the shorter rows ahead.
-/
import Derived.Test.YtiglmoggpjgmbaaSymM
namespace Go.Proofs.Ytiglmoggpjgmbaa
open Go.ChangeShapes Go.WideShapes Go.ChangeAt Go.RowKit Go.Joins
set_option linter.unusedVariables false

section
variable {α : Type} [Inhabited α] {lt : α → α → Bool}
/-- Some stretches are merged to ones twice as long, the others are as they were. -/
structure Half (lt : α → α → Bool) (bs n Q : Nat) (d : Array α) : Prop where
  done : Blks lt (2 * bs) n (Q * (2 * bs)) d
  todo : ∀ q, Q * (2 * bs) ≤ q * bs → q * bs < n → Sort.SortedIn lt (q * bs) (min ((q + 1) * bs) n) d
theorem Half.start {bs n : Nat} {d : Array α} (h : Blks lt bs n n d) : Half lt bs n 0 d := ⟨fun q hq => by omega, fun q _ hq => h q hq⟩
theorem half_eq (bs Q : Nat) : Q * (2 * bs) = (2 * Q) * bs ∧ Q * (2 * bs) + bs = (2 * Q + 1) * bs ∧ (Q + 1) * (2 * bs) = Q * (2 * bs) + 2 * bs ∧ (2 * Q + 1 + 1) * bs = Q * (2 * bs) + 2 * bs := by
  have e1 : Q * (2 * bs) = (2 * Q) * bs := by rw [Nat.mul_comm 2 Q, Nat.mul_assoc]
  refine ⟨e1, ?_, ?_, ?_⟩
  · rw [Nat.add_mul (2 * Q) 1 bs, Nat.one_mul, e1]
  · rw [Nat.succ_mul]
  · rw [Nat.add_mul (2 * Q + 1) 1 bs, Nat.add_mul (2 * Q) 1 bs, Nat.one_mul, ← e1]; omega
theorem Half.sides {bs n Q : Nat} {d : Array α} (h : Half lt bs n Q d) (hb : 0 < bs) : (Q * (2 * bs) < n → Sort.SortedIn lt (Q * (2 * bs)) (min (Q * (2 * bs) + bs) n) d) ∧ (Q * (2 * bs) + bs < n → Sort.SortedIn lt (Q * (2 * bs) + bs) (min (Q * (2 * bs) + 2 * bs) n) d) := by
  obtain ⟨e1, e2, e3, e4⟩ := half_eq bs Q
  refine ⟨fun hn => ?_, fun hn => ?_⟩
  · have := h.todo (2 * Q) (by omega) (by omega)
    rw [← e1] at this
    rwa [← e2] at this
  · have := h.todo (2 * Q + 1) (by omega) (by omega)
    rw [← e2, e4] at this
    exact this
theorem Half.step {bs n Q : Nat} {d d' : Array α} (h : Half lt bs n Q d) (hb : 0 < bs) (hp : Sort.PermIn (Q * (2 * bs)) (min (Q * (2 * bs) + 2 * bs) n) d d') (hs : Sort.SortedIn lt (Q * (2 * bs)) (min (Q * (2 * bs) + 2 * bs) n) d') : Half lt bs n (Q + 1) d' := by
  obtain ⟨e1, e2, e3, e4⟩ := half_eq bs Q
  refine ⟨h.done.step (by rw [e3]; exact hp) (by rw [e3]; exact hs), fun q hq hn => ?_⟩
  rw [e3] at hq
  exact sorted_out hp (h.todo q (by omega) hn) (.inr (by omega))
theorem Half.all {bs n Q : Nat} {d : Array α} (h : Half lt bs n Q d) (hn : n ≤ Q * (2 * bs)) : Blks lt (2 * bs) n n d := fun q hq => h.done q (by omega)
theorem Blks.whole {bs n : Nat} {d : Array α} (h : Blks lt bs n n d) (hn : n ≤ bs) : Sort.SortedIn lt 0 n d := by
  by_cases h0 : n = 0
  · subst h0; intro i j h1 h2 h3; omega
  · have := h 0 (by omega)
    rw [Nat.zero_mul, Nat.zero_add, Nat.one_mul, Nat.min_eq_right hn] at this
    exact this
end

def StabPst (w0 : World) (B : Nat) (d : Array LV) (e : Ending) (w' : World) : Prop := e = .returned (.tuple #[]) ∧ ∃ d', SL w0 B d' w' ∧ Sort.PermIn 0 d.size d d' ∧ Sort.SortedIn ltR 0 d.size d'

set_option maxHeartbeats 4000000 in
set_option maxRecDepth 1000000 in
theorem stable_any (B cap : Nat) (d : Array LV) (w : World) (R : RL w B d) (hsz : d.size ≤ 1000000) :
    Calls Try.prog 42 #[.slice (some ⟨B, 0, none⟩) d.size cap, .int .i64 d.size, .func (.func 35) #[] #[]] w (StabPst w B d) := by
  have S0 : Aside (SL w B d w) := SWK.start R.hH
  obtain ⟨n, hn⟩ : ∃ n, n = d.size := ⟨_, rfl⟩
  have HN := Lib.hid hn
  rw [← hn] at hsz ⊢
  have HI : Hid (∀ (a b : Nat) (dk : Array LV) (wr : World), dk.size = n → SL w B dk wr → a ≤ b → b ≤ n → Calls Try.prog 47 #[.slice (some ⟨B, 0, none⟩) n cap, .int .i64 a, .int .i64 b, .func (.func 35) #[] #[]] wr fun e w' => e = .returned (.tuple #[]) ∧ ∃ d', SL w B d' w' ∧ Sort.PermIn a b dk d' ∧ Sort.SortedIn ltR a b d') := fun a b dk wr h1 h2 h3 h4 => by
    have := insertion_any B cap a b d dk w wr R (by omega) h2 h3 (by omega) (by omega)
    rwa [h1] at this
  have HS : Hid (∀ (a m b : Nat) (dk : Array LV) (wr : World), dk.size = n → SL w B dk wr → a < m → m < b → b ≤ n → Sort.SortedIn ltR a m dk → Sort.SortedIn ltR m b dk → Calls Try.prog 48 #[.slice (some ⟨B, 0, none⟩) n cap, .int .i64 a, .int .i64 m, .int .i64 b, .func (.func 35) #[] #[]] wr (SymPst w B a b dk)) := fun a m b dk wr h1 h2 h3 h4 h5 h6 h7 => by
    have := sym_any (b - a + 1) B cap a m b d dk w wr (by omega) R (by omega) h2 h3 h4 (by omega) (by omega) h6 h7
    rwa [h1] at this
  clear hn
  go_enter Try.func42, Try.ntmps42
  go_wp2_with fail
  go_loopg [7, 8] n (fun g s7 s8 wr => ∃ (Q a b : Nat) (dk : Array LV), s7 = .int .i64 a ∧ s8 = .int .i64 b ∧ a ≤ n ∧ n - a ≤ g ∧ b ≤ a + 20 ∧ a < b ∧ Aside (a = Q * 20 ∧ b = a + 20 ∧ dk.size = n ∧ SL w B dk wr ∧ Sort.PermIn 0 n d dk ∧ Blks ltR 20 n (Q * 20) dk))
  case atStart => exact ⟨0, 0, 20, d, by go_num, by go_num, by omega, by omega, by omega, by omega, by omega, by omega, HN.out.symm, S0, pm_refl _ _ _, by rw [Nat.zero_mul]; exact Blks.start _ _ _⟩
  case round =>
    clear S0
    obtain ⟨Q, a, b, dk, rfl, rfl, han, hg, hba, hab, F⟩ := hrel
    by_cases hlt : b ≤ n
    · have hltz : (b : Int) ≤ (n : Int) := by omega
      have h := HI.out a b dk wr F.out.2.2.1 F.out.2.2.2.1 (by omega) hlt
      go_wp2_with fail
      (with_reducible refine h.mono ?_)
      rintro e w2 ⟨rfl, d2, S2, P2, O2⟩
      have F2 : Aside (b = (Q + 1) * 20 ∧ d2.size = n ∧ SL w B d2 w2 ∧ Sort.PermIn 0 n d d2 ∧ Blks ltR 20 n ((Q + 1) * 20) d2) := by
        obtain ⟨f1, f2, f3, f4, f5, f6⟩ := F.out
        have hm : min ((Q + 1) * 20) n = b := by omega
        refine ⟨by omega, by rw [P2.1, f3], S2, pm_trans f5 (pm_mono (by omega) (by omega) (by omega) P2), f6.step ?_ ?_⟩
        · rw [hm, ← f1]; exact P2
        · rw [hm, ← f1]; exact O2
      clear F S2 P2 O2 h
      go_wp2_with fail
      go_roundg (n - b)
      case measure => omega
      case rel => exact ⟨Q + 1, b, b + 20, d2, rfl, by first | rfl | go_num | (congr 1; omega), by omega, Nat.le_refl _, by omega, by omega, F2.out.1, rfl, F2.out.2⟩
    · have hltz : ¬ (b : Int) ≤ (n : Int) := by omega
      have h := HI.out a n dk wr F.out.2.2.1 F.out.2.2.2.1 (by omega) (Nat.le_refl _)
      go_wp2_with fail
      (with_reducible refine h.mono ?_)
      rintro e w2 ⟨rfl, d2, S2, P2, O2⟩
      have F2 : Aside (d2.size = n ∧ SL w B d2 w2 ∧ Sort.PermIn 0 n d d2 ∧ Blks ltR 20 n n d2) := by
        obtain ⟨f1, f2, f3, f4, f5, f6⟩ := F.out
        have hm : min ((Q + 1) * 20) n = n := by omega
        have := f6.step (d' := d2) (by rw [hm, ← f1]; exact P2) (by rw [hm, ← f1]; exact O2)
        exact ⟨by rw [P2.1, f3], S2, pm_trans f5 (pm_mono (by omega) (by omega) (by omega) P2), fun q hq => this q (by omega)⟩
      clear F S2 P2 O2 h
      go_wp2_with fail
      go_loopg [6] n (fun g s6 wr => ∃ (bs : Nat) (dk : Array LV), s6 = .int .i64 bs ∧ 20 ≤ bs ∧ bs ≤ 2 * n + 20 ∧ n - bs ≤ g ∧ Aside (dk.size = n ∧ SL w B dk wr ∧ Sort.PermIn 0 n d dk ∧ Blks ltR bs n n dk))
      case atStart => exact ⟨20, d2, by go_num, Nat.le_refl _, by omega, by omega, F2⟩
      case round =>
        clear F2
        obtain ⟨bs, dk, rfl, hbs, hbs2, hg2, F⟩ := hrel
        by_cases hlt2 : bs < n
        · have hlt2z : (bs : Int) < (n : Int) := by omega
          go_wp2_with fail
          go_loopg [7, 8] n (fun g s7 s8 wr => ∃ (Q a b : Nat) (dk : Array LV), s7 = .int .i64 a ∧ s8 = .int .i64 b ∧ a ≤ n ∧ n - a ≤ g ∧ b ≤ a + 2 * bs ∧ a + bs < b ∧ Aside (a = Q * (2 * bs) ∧ b = a + 2 * bs ∧ dk.size = n ∧ SL w B dk wr ∧ Sort.PermIn 0 n d dk ∧ Half ltR bs n Q dk))
          case atStart => exact ⟨0, 0, 2 * bs, dk, rfl, by go_num, by omega, by omega, by omega, by omega, by omega, by omega, F.out.1, F.out.2.1, F.out.2.2.1, Half.start F.out.2.2.2⟩
          case round =>
            clear F
            obtain ⟨Q, a, b, dk, rfl, rfl, han, hg3, hba, hab, F⟩ := hrel
            by_cases hlt3 : b ≤ n
            · have hlt3z : (b : Int) ≤ (n : Int) := by omega
              have h : Calls Try.prog 48 #[.slice (some ⟨B, 0, none⟩) n cap, .int .i64 a, .int .i64 ((a : Int) + (bs : Int)), .int .i64 b, .func (.func 35) #[] #[]] wr (SymPst w B a b dk) := by
                obtain ⟨f1, f2, f3, f4, f5, f6⟩ := F.out
                obtain ⟨x1, x2⟩ := f6.sides (by omega)
                rw [← f1] at x1 x2
                have y1 := x1 (by omega)
                have y2 := x2 (by omega)
                rw [Nat.min_eq_left (by omega)] at y1 y2
                rw [← f2] at y2
                have := HS.out a (a + bs) b dk wr f3 f4 (by omega) (by omega) hlt3 y1 y2
                rwa [Int.natCast_add] at this
              go_wp2_with fail
              (with_reducible refine h.mono ?_)
              rintro e w2 ⟨rfl, d2, S2, P2, O2⟩
              have F2 : Aside (b = (Q + 1) * (2 * bs) ∧ d2.size = n ∧ SL w B d2 w2 ∧ Sort.PermIn 0 n d d2 ∧ Half ltR bs n (Q + 1) d2) := by
                obtain ⟨f1, f2, f3, f4, f5, f6⟩ := F.out
                obtain ⟨e1, e2, e3, e4⟩ := half_eq bs Q
                have hm : min (a + 2 * bs) n = b := by omega
                refine ⟨by omega, by rw [P2.1, f3], S2, pm_trans f5 (pm_mono (by omega) (by omega) (by omega) P2), f6.step (by omega) ?_ ?_⟩
                · rw [← f1, hm]; exact P2
                · rw [← f1, hm]; exact O2
              clear F S2 P2 O2 h
              go_wp2_with fail
              go_roundg (n - b)
              case measure => omega
              case rel => exact ⟨Q + 1, b, b + 2 * bs, d2, rfl, by first | rfl | go_num | (congr 1; omega), by omega, Nat.le_refl _, by omega, by omega, F2.out.1, rfl, F2.out.2⟩
            · have hlt3z : ¬ (b : Int) ≤ (n : Int) := by omega
              by_cases hm : a + bs < n
              · have hmz : (a : Int) + (bs : Int) < (n : Int) := by omega
                have h : Calls Try.prog 48 #[.slice (some ⟨B, 0, none⟩) n cap, .int .i64 a, .int .i64 ((a : Int) + (bs : Int)), .int .i64 n, .func (.func 35) #[] #[]] wr (SymPst w B a n dk) := by
                  obtain ⟨f1, f2, f3, f4, f5, f6⟩ := F.out
                  obtain ⟨x1, x2⟩ := f6.sides (by omega)
                  rw [← f1] at x1 x2
                  have y1 := x1 (by omega)
                  have y2 := x2 (by omega)
                  rw [Nat.min_eq_left (by omega)] at y1
                  rw [Nat.min_eq_right (by omega)] at y2
                  have := HS.out a (a + bs) n dk wr f3 f4 (by omega) (by omega) (Nat.le_refl _) y1 y2
                  rwa [Int.natCast_add] at this
                go_wp2_with fail
                (with_reducible refine h.mono ?_)
                rintro e w2 ⟨rfl, d2, S2, P2, O2⟩
                have F2 : Aside (d2.size = n ∧ SL w B d2 w2 ∧ Sort.PermIn 0 n d d2 ∧ Blks ltR (2 * bs) n n d2) := by
                  obtain ⟨f1, f2, f3, f4, f5, f6⟩ := F.out
                  obtain ⟨e1, e2, e3, e4⟩ := half_eq bs Q
                  have hm : min (a + 2 * bs) n = n := by omega
                  exact ⟨by rw [P2.1, f3], S2, pm_trans f5 (pm_mono (by omega) (by omega) (by omega) P2), (f6.step (d' := d2) (by omega) (by rw [← f1, hm]; exact P2) (by rw [← f1, hm]; exact O2)).all (by omega)⟩
                clear F S2 P2 O2 h
                go_wp2_with fail
                go_roundg (n - 2 * bs)
                case measure => omega
                case rel => exact ⟨2 * bs, d2, by first | rfl | go_num | (congr 1; omega), by omega, by omega, Nat.le_refl _, F2⟩
              · have hmz : ¬ (a : Int) + (bs : Int) < (n : Int) := by omega
                have F2 : Aside (dk.size = n ∧ SL w B dk wr ∧ Sort.PermIn 0 n d dk ∧ Blks ltR (2 * bs) n n dk) := by
                  obtain ⟨f1, f2, f3, f4, f5, f6⟩ := F.out
                  obtain ⟨e1, e2, e3, e4⟩ := half_eq bs Q
                  have hm : min (a + 2 * bs) n = n := by omega
                  refine ⟨f3, f4, f5, (f6.step (d' := dk) (by omega) (pm_refl _ _ _) ?_).all (by omega)⟩
                  rw [← f1, hm]
                  by_cases h0 : a < n
                  · have := (f6.sides (by omega)).1 (by omega)
                    rw [← f1, Nat.min_eq_right (by omega)] at this
                    exact this
                  · intro i j h1 h2 h3; omega
                clear F
                go_wp2_with fail
                go_roundg (n - 2 * bs)
                case measure => omega
                case rel => exact ⟨2 * bs, dk, by first | rfl | go_num | (congr 1; omega), by omega, by omega, Nat.le_refl _, F2⟩
        · have hlt2z : ¬ (bs : Int) < (n : Int) := by omega
          go_wp2_with fail
          go_end0
          refine ⟨rfl, dk, F.out.2.1, ?_, ?_⟩
          · rw [← HN.out]; exact F.out.2.2.1
          · rw [← HN.out]; exact F.out.2.2.2.whole (by omega)

theorem sortStable_any (B cap : Nat) (d : Array LV) (w : World) (R : RL w B d) (hsz : d.size ≤ 1000000) :
    Calls Try.prog 34 #[.slice (some ⟨B, 0, none⟩) d.size cap, .func (.func 35) #[] #[]] w (StabPst w B d) := by
  have h := stable_any B cap d w R hsz
  have HR := Lib.hid R
  clear R
  go_enter Try.func34, Try.ntmps34
  go_wp2_with fail
  (with_reducible refine h.mono ?_)
  rintro e w2 ⟨rfl, F⟩
  have F2 := Lib.hid F
  clear F h
  go_wp2_with fail
  go_end0
  exact ⟨rfl, F2.out⟩
end Go.Proofs.Ytiglmoggpjgmbaa
