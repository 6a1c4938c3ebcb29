/-
  The document's Parities.
-/
import Derived.Test.YtgfcpneblkleiaaPreB
import Derived.Test.YtgfcpneblkleiaaFieldQ
import Derived.Test.YtgfcpneblkleiaaPush
import Derived.Deep.LoopGhost
namespace Go.Proofs.Ytgfcpneblkleiaa
open Go.ChangeShapes Go.WideShapes Go.ChangeAt Go.RowKit Go.Joins
set_option linter.unusedVariables false

/-- A new row, the first k bytes of m in it, noughts behind. -/
def partV (m : List Nat) (k j : Nat) : Value := if j < k then vOf m j else zV j
structure PartTo (B : Nat) (w : World) (g : Nat) (m : List Nat) (k : Nat) : Prop where
  low : B ≤ g
  row : Row w g 5 m.length m.length (partV m k)
theorem PartTo.start (B : Nat) (w : World) (m : List Nat) (n : Nat) (hn : m.length = n) (hB : B ≤ w.heap.size) : PartTo B (w.alloc (.cells (rowArr n zV) 5)) w.heap.size m 0 := by
  subst hn
  exact ⟨hB, (Row.new_whole w _ _ zV _ _ rfl rfl).mono (Nat.le_refl _) (fun j hj => by simp [partV])⟩
theorem PartTo.set {B : Nat} {w : World} {g : Nat} {m : List Nat} {k : Nat} (h : PartTo B w g m k) (hk : k < m.length) {u : Value} (hu : u = .int .u8 ((m[k] : Nat) : Int)) : PartTo B (w.setCell ⟨g, k, none⟩ u) g m (k + 1) :=
  ⟨h.low, (h.row.upd k hk u).mono (Nat.le_refl _) fun j hj => by
    by_cases e : j = k
    · subst e; simp [partV, hu, vOf_eq m j hk]
    · simp only [e, if_false, partV]
      by_cases h2 : j < k
      · rw [if_pos h2, if_pos (by omega)]
      · rw [if_neg h2, if_neg (by omega)]⟩
theorem PartTo.skip {B : Nat} {w : World} {g : Nat} {m : List Nat} {k : Nat} (h : PartTo B w g m k) (hk : k < m.length) (h0 : m[k] = 0) : PartTo B w g m (k + 1) :=
  ⟨h.low, h.row.mono (Nat.le_refl _) fun j hj => by
    by_cases e : j = k
    · subst e; simp [partV, vOf_eq m j hk, h0, zV]
    · simp only [partV]
      by_cases h2 : j < k
      · rw [if_pos h2, if_pos (by omega)]
      · rw [if_neg h2, if_neg (by omega)]⟩
theorem PartTo.done (C : Nat) {B : Nat} {w : World} {g : Nat} {m : List Nat} {k : Nat} (h : PartTo B w g m k) (hk : m.length ≤ k) (hb : IsByte m) (hm : m.length ≤ 1000000) : Rw C w (some ⟨g, 0, none⟩) m.length m := by
  have hr : Row w g 5 m.length m.length (vOf m) := h.row.mono (Nat.le_refl _) fun j hj => by simp only [partV]; rw [if_pos (by omega)]
  refine ⟨hr.sl rfl hb (by unfold maxLen; omega), fun _ p hp => ?_⟩
  cases hp
  obtain ⟨cs, e, _⟩ := hr
  exact .inr ⟨cs, (0, 0), e⟩

theorem spN_ref (k : Nat) : spN k = if k % 8 = 0 then k / 8 + 1 else k / 8 + 1 + 1 := by
  unfold spN
  split <;> omega
theorem parRows_snoc {k j : Nat} (h : j < spN k + 2) : (parRows k).take (j + 1) = (parRows k).take j ++ [parRow k j] := by
  rw [List.take_succ_eq_append_getElem (by rw [parRows_len]; exact h), parRows_get]

theorem pn_first (s i : Nat) : pnN s s i = powI 2 ((i : Int) + 1) := by
  unfold pnN
  rw [if_neg (Nat.lt_irrefl s)]
  congr 1
  rw [Nat.sub_self]; simp
theorem pn_second (s i : Nat) : pnN s (s + 1) i = powI 2 (2 * ((i : Int) + 1)) := by
  unfold pnN
  rw [if_neg (by omega)]
  congr 1
  rw [show s + 1 - s + 1 = 2 by omega]; omega

/-- What lies behind one round of the document's Parities. -/
structure RefAt (w wo : World) (m : List Nat) (i : Nat) (wi : World) : Prop where
  part : PartTo wo.heap.size wi wo.heap.size m i
  below : Below wo.heap.size wo wi
theorem RefAt.start (w wo : World) (m : List Nat) (n : Nat) (hn : m.length = n) : RefAt w wo m 0 (wo.alloc (.cells (rowArr n zV) 5)) :=
  ⟨PartTo.start _ _ m n hn (Nat.le_refl _), (Below.refl _ _).alloc (Nat.le_refl _) _⟩
theorem RefAt.set {w wo wi : World} {m : List Nat} {k : Nat} (h : RefAt w wo m k wi) (hk : k < m.length) {u : Value} (hu : u = .int .u8 ((m[k] : Nat) : Int)) : RefAt w wo m (k + 1) (wi.setCell ⟨wo.heap.size, k, none⟩ u) :=
  ⟨h.part.set hk hu, h.below.setCell (Nat.le_refl _) _⟩
theorem RefAt.skip {w wo wi : World} {m : List Nat} {k : Nat} (h : RefAt w wo m k wi) (hk : k < m.length) (h0 : m[k] = 0) : RefAt w wo m (k + 1) wi := ⟨h.part.skip hk h0, h.below⟩

def OwnPost (ls : Rws) (w : World) (e : Ending) (w' : World) : Prop :=
  ∃ v, e = .returned v ∧ Own w.heap.size w' v ls ∧ Below w.heap.size w w'

set_option maxRecDepth 100000 in
set_option maxHeartbeats 2000000 in
theorem refPar_any (k : Nat) (h1 : 1 ≤ k) (hk : k ≤ 64) (w : World) :
    Calls Try.prog 17 #[.int .i64 (k : Int)] w (OwnPost (parRows k) w) := by
  have hsb := spN_bound hk
  have hs2 := spN_two h1
  have HSR := Lib.hid (spN_ref k)
  have HSN := Lib.hid (fun (j : Nat) (h : j < spN k + 2) => parRows_snoc (k := k) h)
  have HLEN := Lib.hid (parRows_len k)
  have HZ : Hid ((parRows k).take 0 = []) := rfl
  have HRG : Hid (∀ j i (h : i < (parRow k j).length), (parRow k j)[i] = pnN (spN k) j i) := fun j => parRow_get k j
  have HRL : Hid (∀ j, (parRow k j).length = k) := fun j => parRow_len k j
  have HRB : Hid (∀ j, IsByte (parRow k j)) := fun j => parRow_byte k j
  generalize parRow k = R at *
  generalize parRows k = P at *
  generalize spN k = s at *
  obtain ⟨q, hq⟩ : ∃ q : Nat, (k : Int) / 8 = (q : Int) := ⟨k / 8, rfl⟩
  obtain ⟨r, hr⟩ : ∃ r : Nat, (k : Int) % 8 = (r : Int) := ⟨k % 8, rfl⟩
  have hq' : k / 8 = q := by omega
  have hr' : k % 8 = r := by omega
  have HMK : Hid (∀ w, (Instr.makeSlice 30 (.int .i64 (k : Int)) (.int .i64 (k : Int))).run Try.prog w = .ok (.slice (some ⟨w.heap.size, 0, none⟩) k k) (w.alloc (.cells (rowArr k zV) 5))) := make_row k (by omega)
  rw [hq', hr'] at HSR
  clear hq' hr'
  have hqb : q ≤ 64 := by omega
  by_cases h0 : r = 0
  case' pos =>
    subst h0
    have hs : (q : Int) + 1 = (s : Int) := by have := HSR.out; simp at this; omega
    clear HSR
    go_enter Try.func17, Try.ntmps17
    go_wp2_with fail
    clear hq hr hs
  case' neg =>
    have hs1 : (q : Int) + 1 + 1 = (s : Int) := by have := HSR.out; rw [if_neg h0] at this; omega
    have hr0 : 0 < (r : Int) := by omega
    have hr1 : 0 < r := by omega
    clear HSR
    go_enter Try.func17, Try.ntmps17
    go_wp2_with fail
    clear hq hr hs1
  all_goals
    go_loopw [4, 18] (fun v i wr => ∃ j : Nat, j ≤ s + 2 ∧ i = .int .i64 j ∧ Hid (Own w.heap.size wr v (P.take j)) ∧ Hid (Below w.heap.size w wr)) (fun _ i _ => s + 2 - (intOf i).toNat)
    case atStart => exact ⟨0, by omega, rfl, by rw [HZ.out]; exact Own.nil _ _, Below.refl _ _⟩
    case round =>
      obtain ⟨j, hj, rfl, HO, HB⟩ := hrel
      by_cases hlt : j < s + 2
      · have hmk := HMK.out wr
        have HST := Lib.hid (RefAt.start w wr (R j) k (HRL.out j))
        have hjl : (j : Int) < (s : Int) + 2 := by omega
        have HSJ := Lib.hid (HSN.out j hlt)
        have HRJ := Lib.hid (HRG.out j)
        have HRLJ := Lib.hid (HRL.out j)
        have HRBJ := Lib.hid (HRB.out j)
        generalize R j = m at *
        obtain ⟨wo, hwo⟩ : ∃ wo, wo = wr := ⟨_, rfl⟩
        rw [← hwo] at HST HO HB
        go_wp2_with fail
        rw [← hwo]
        clear hmk hwo wr
        go_loopg [24] k (fun gg i wi => ∃ i' : Nat, i' ≤ k ∧ k - i' ≤ gg ∧ i = .int .i64 i' ∧ Hid (RefAt w wo m i' wi))
        case atStart => exact ⟨0, by omega, by omega, rfl, HST⟩
        case round =>
          obtain ⟨i, hi, hig, rfl, HK⟩ := hrel
          by_cases hik : i < k
          · have hil : i < m.length := by rw [HRLJ.out]; exact hik
            have HMI := Lib.hid (HRJ.out i hil)
            have hcv := HK.out.part.row.has i hil
            obtain ⟨vk, hcv⟩ := hcv
            have hlo := HK.out.part.row.loose i
            have HX : Hid (∀ u, u = .int .u8 ((m[i] : Nat) : Int) → RefAt w wo m (i + 1) (wr.setCell ⟨wo.heap.size, i, none⟩ u)) := fun u hu => HK.out.set hil hu
            by_cases hjs : j < s
            · have hne1 : ((j : Int) == (s : Int)) = false := by simp; omega
              have hne2 : ((j : Int) == (s : Int) + 1) = false := by simp; omega
              obtain ⟨e1, e2⟩ := mod_two i s
              obtain ⟨e3, e4⟩ := mod_three i s
              have hr1 := Nat.mod_lt i (show 0 < s by omega)
              have hq1 := Nat.mod_lt (3 * i + 1) (show 0 < s by omega)
              have hz : ((s : Int) == 0) = false := by simp; omega
              have hjs2 : (j : Int) < (s : Int) := by omega
              have HP := Lib.hid (HMI.out.trans (pnN_spar hjs))
              by_cases c1 : i % s = j
              · have HF : Hid (RefAt w wo m (i + 1) (wr.setCell ⟨wo.heap.size, i, none⟩ (.int .u8 1))) := HX.out _ (by rw [HP.out]; unfold sparN; rw [if_pos (.inl c1)]; rfl)
                rw [c1] at e1 e2
                have h3 : ((j : Int) == (j : Int)) = true := by simp
                clear e3 e4 hr1 hq1 c1 hne1 hne2
                go_wp2_with fail
                go_roundg (k - (i + 1))
                case rel => exact ⟨i + 1, by omega, by omega, by go_num, HF⟩
                case measure => omega
              · have h1b : (((i % s : Nat) : Int) == (j : Int)) = false := by simp; omega
                by_cases c2 : (3 * i + 1) % s = j
                · have HF : Hid (RefAt w wo m (i + 1) (wr.setCell ⟨wo.heap.size, i, none⟩ (.int .u8 1))) := HX.out _ (by rw [HP.out]; unfold sparN; rw [if_pos (.inr c2)]; rfl)
                  rw [c2] at e3 e4
                  have h3 : ((j : Int) == (j : Int)) = true := by simp
                  generalize i % s = rr at *
                  clear hq1 c2 hne1 hne2
                  go_wp2_with fail
                  go_roundg (k - (i + 1))
                  case rel => exact ⟨i + 1, by omega, by omega, by go_num, HF⟩
                  case measure => omega
                · have HF : Hid (RefAt w wo m (i + 1) wr) := HK.out.skip hil (by rw [HP.out]; unfold sparN; rw [if_neg (by omega)])
                  have h2b : ((((3 * i + 1) % s : Nat) : Int) == (j : Int)) = false := by simp; omega
                  generalize i % s = rr at *
                  generalize (3 * i + 1) % s = qq at *
                  go_wp2_with fail
                  go_roundg (k - (i + 1))
                  case rel => exact ⟨i + 1, by omega, by omega, by go_num, HF⟩
                  case measure => omega
            · have hjs2 : ¬ ((j : Int) < (s : Int)) := by omega
              by_cases hj0 : j = s
              · subst hj0
                have HP := Lib.hid (HMI.out.trans (pn_first j i))
                have HC : Hid (∀ w, Calls Try.prog 26 #[.int .u8 2, .int .i64 ((i : Int) + 1)] w fun e w' => e = .returned (.int .u8 ((powI 2 ((i : Int) + 1) : Nat) : Int)) ∧ w = w') := refPow_any 2 ((i : Int) + 1) (by omega) (by omega) (by omega)
                have hpl := powI_lt (show 2 < 256 by omega) ((i : Int) + 1)
                generalize powI 2 ((i : Int) + 1) = pw at *
                have HF : Hid (RefAt w wo m (i + 1) (wr.setCell ⟨wo.heap.size, i, none⟩ (.int .u8 (pw : Int)))) := HX.out _ (by rw [HP.out])
                have h3 : ((j : Int) == (j : Int)) = true := by simp
                go_wp2_with (go_at_call 26; refine (HC.out _).mono ?_; rintro e w' ⟨rfl, rfl⟩)
                go_roundg (k - (i + 1))
                case rel => exact ⟨i + 1, by omega, by omega, by go_num, HF⟩
                case measure => omega
              · obtain rfl : j = s + 1 := by omega
                have HP := Lib.hid (HMI.out.trans (pn_second s i))
                have HC : Hid (∀ w, Calls Try.prog 26 #[.int .u8 2, .int .i64 (2 * ((i : Int) + 1))] w fun e w' => e = .returned (.int .u8 ((powI 2 (2 * ((i : Int) + 1)) : Nat) : Int)) ∧ w = w') := refPow_any 2 (2 * ((i : Int) + 1)) (by omega) (by omega) (by omega)
                have hpl := powI_lt (show 2 < 256 by omega) (2 * ((i : Int) + 1))
                generalize powI 2 (2 * ((i : Int) + 1)) = pw at *
                have HF : Hid (RefAt w wo m (i + 1) (wr.setCell ⟨wo.heap.size, i, none⟩ (.int .u8 (pw : Int)))) := HX.out _ (by rw [HP.out])
                have h3 : ((s : Int) + 1 == (s : Int) + 1) = true := by simp
                have h4 : ((s : Int) + 1 == (s : Int)) = false := by simp; omega
                go_wp2_with (go_at_call 26; refine (HC.out _).mono ?_; rintro e w' ⟨rfl, rfl⟩)
                go_roundg (k - (i + 1))
                case rel => exact ⟨i + 1, by omega, by omega, by go_num, HF⟩
                case measure => omega
          · obtain rfl : i = k := by omega
            have HRW : Hid (Rw w.heap.size wr (some ⟨wo.heap.size, 0, none⟩) m.length m) := HK.out.part.done _ (by rw [HRLJ.out]; exact Nat.le_refl _) HRBJ.out (by rw [HRLJ.out]; omega)
            have HO1 := Lib.hid (HO.out.keep HK.out.below)
            have HB1 : Hid (Below w.heap.size w wr) := HB.out.trans (HK.out.below.mono HB.out.size)
            rw [HRLJ.out] at HRW
            have hlen : (P.take j).length ≤ 100000 := by rw [List.length_take, HLEN.out]; omega
            have HLM := Lib.hid HRLJ.out
            generalize wo.heap.size = g0 at *
            go_wp2_with (at_builtin; refine wpList_push_rows _ rfl _ _ rfl w.heap.size _ _ rfl (HO1.out.keep ((Below.refl _ _).alloc (Nat.le_refl _) _)) wr.heap.size rfl (some ⟨g0, 0, none⟩) i m (by rw [HLM.out]; simp) (HRW.out.below ((Below.refl _ _).alloc (Nat.le_refl _) _)) (by have := HB1.out.size; simp; omega) hlen ?_; intro v' w2 HO2 hk2)
            go_roundw
            case rel => exact ⟨j + 1, by omega, by go_num, by rw [HSJ.out]; exact HO2, (HB1.out.alloc HB1.out.size _).trans (hk2.below (by have := HB1.out.size; simp; omega))⟩
            case measure => simp [intOf]; omega
      · obtain rfl : j = s + 2 := by omega
        have hjl : ¬ ((s : Int) + 2 < (s : Int) + 2) := by omega
        have HPE : Hid (P.take (s + 2) = P) := by show _ = _; rw [← HLEN.out, List.take_length]
        go_wp2_with fail
        go_ret
        exact ⟨_, rfl, by rw [← HPE.out]; exact HO.out, HB.out⟩
end Go.Proofs.Ytgfcpneblkleiaa
