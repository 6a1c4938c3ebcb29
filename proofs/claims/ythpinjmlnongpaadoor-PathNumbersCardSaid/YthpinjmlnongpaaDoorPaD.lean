/-
  Package path: Volume, Fresh, Aside, Number.
-/
import Derived.Test.YthpinjmlnongpaaDoorPaB
import Derived.Test.YthpinjmlnongpaaDoorConvLay
import Derived.Lib.QuietBelow
import Derived.Lib.SmallJoins
import Derived.Lib.AtoiTie
import Derived.Lib.AtoiAllCases
namespace Go.Proofs.YthpinjmlnongpaaDoor
open Go.ChangeShapes Go.WideShapes Go.ChangeAt Go.RowKit Go.Joins
set_option linter.unusedVariables false

/-- The library's variables that the conversions read. -/
structure Cv (w : World) : Prop where
  mx : Mx w
  pow : Lib.TabIs Tryd.prog w "internal/strconv.uint64pow10" .u64 Lib.pow10Tab
  syn : ∃ t p, w.var? Tryd.prog "strconv.ErrSyntax" = some #[.iface t p]
  ran : ∃ t p, w.var? Tryd.prog "strconv.ErrRange" = some #[.iface t p]
theorem Cv.below {w w' : World} (h : Cv w) (hb : Below w.heap.size w w') : Cv w' := by
  obtain ⟨t1, p1, h1⟩ := h.syn
  obtain ⟨t2, p2, h2⟩ := h.ran
  exact ⟨h.mx.below hb, tab_stays (g := 5) (by kernel_rfl) h.pow hb (Nat.le_refl _),
    ⟨t1, p1, var_stays (g := 3) (by kernel_rfl) h1 hb (Nat.le_refl _)⟩, ⟨t2, p2, var_stays (g := 4) (by kernel_rfl) h2 hb (Nat.le_refl _)⟩⟩

/-- The string of these bytes. -/
def strL (l : List UInt8) : ByteArray := ⟨l.toArray⟩
theorem strL_data (l : List UInt8) : (strL l).data.toList = l := by simp [strL]
theorem strL_append (a b : List UInt8) : strL a ++ strL b = strL (a ++ b) := by
  apply ByteArray.ext
  apply Array.ext'
  rw [data_append, strL_data, strL_data, strL_data]
theorem strL_eta (s : ByteArray) : strL s.data.toList = s := bytes_eta s
def gysL : List UInt8 := [46, 103, 121, 115]
def oldL : List UInt8 := [111, 108, 100, 47]
def tmpL : List UInt8 := [116, 109, 112, 47]
def counted (n : Int) : Bool := decide (0 ≤ n ∧ n ≤ 999)
def volS (n : Int) : List UInt8 := if 0 ≤ n ∧ n ≤ 999 then Lib.decDigits n.toNat ++ gysL else []
def freshS (n : Int) : List UInt8 := if 0 ≤ n ∧ n ≤ 999 then tmpL ++ Lib.decDigits n.toNat else []
def asideS (l : List UInt8) (n : Int) : List UInt8 := if 0 ≤ n ∧ n ≤ 999 then oldL ++ Lib.decDigits n.toNat ++ [47] ++ l else []

theorem strL_size (l : List UInt8) : (strL l).size = l.length := by simp [strL, ByteArray.size]
theorem dd1 {k : Nat} (h : k < 10) : Lib.decDigits k = [UInt8.ofNat (48 + k)] := by rw [Lib.decDigits, dif_pos h]
theorem dd2 {k : Nat} (h1 : 10 ≤ k) (h : k < 100) : Lib.decDigits k = [UInt8.ofNat (48 + k / 10), UInt8.ofNat (48 + k % 10)] := by
  rw [Lib.decDigits, dif_neg (by omega), dd1 (by omega)]; rfl
theorem dd3 {k : Nat} (h1 : 100 ≤ k) (h : k < 1000) : Lib.decDigits k = [UInt8.ofNat (48 + k / 10 / 10), UInt8.ofNat (48 + k / 10 % 10), UInt8.ofNat (48 + k % 10)] := by
  rw [Lib.decDigits, dif_neg (by omega), dd2 (by omega) (by omega)]; rfl
theorem dd_len {k : Nat} (h : k ≤ 999) : (Lib.decDigits k).length ≤ 3 := by
  by_cases h1 : k < 10
  · rw [dd1 h1]; simp
  · by_cases h2 : k < 100
    · rw [dd2 (by omega) h2]; simp
    · rw [dd3 (by omega) (by omega)]; simp
theorem dd_size {k : Nat} (h : k ≤ 999) : (strL (Lib.decDigits k)).size ≤ 3 := by rw [strL_size]; exact dd_len h
theorem counted_any (n : Int) (w : World) : Calls Tryd.prog 47 #[.int .i64 n] w fun e w' => e = .returned (.bool (decide (0 ≤ n ∧ n ≤ 999))) ∧ w' = w := by
  by_cases h0 : 0 ≤ n
  · by_cases h1 : n ≤ 999
    · rw [decide_eq_true (⟨h0, h1⟩ : 0 ≤ n ∧ n ≤ 999)]
      go_enter Tryd.func47, Tryd.ntmps47
      go_wp2_with fail
      go_ret
      exact ⟨ret_bool (by simp), rfl⟩
    · rw [decide_eq_false (fun h : 0 ≤ n ∧ n ≤ 999 => h1 h.2)]
      go_enter Tryd.func47, Tryd.ntmps47
      go_wp2_with fail
      go_ret
      exact ⟨ret_bool (by simp), rfl⟩
  · rw [decide_eq_false (fun h : 0 ≤ n ∧ n ≤ 999 => h0 h.1)]
    go_enter Tryd.func47, Tryd.ntmps47
    go_wp2_with fail
    go_ret
    exact ⟨ret_bool (by simp), rfl⟩
theorem itoa_any (k : Nat) (hk : k ≤ 999) (w : World) (hc : Cv w) :
    Calls Tryd.prog 48 #[.int .i64 (k : Int)] w fun e w' => e = .returned (.string (strL (Lib.decDigits k))) ∧ Below w.heap.size w w' := by
  refine (Any.strconv_Itoa { lay_itoaB with } (k : Int) (by omega) (by omega) w hc.pow).mono ?_
  rintro e w' ⟨rfl, n, os, rfl⟩
  refine ⟨?_, ?_⟩
  · unfold Lib.itoa
    rw [if_neg (by omega)]
    rfl
  · exact ⟨rfl, rfl, rfl, by show w.heap.size ≤ (w.heap ++ os).size; rw [Array.size_append]; omega, fun j hj => by show (w.heap ++ os)[j]? = _; rw [Array.getElem?_append, if_pos hj]⟩
set_option maxRecDepth 100000 in
theorem volume_any (n : Int) (w : World) (hc : Cv w) : Calls Tryd.prog 24 #[.int .i64 n] w fun e w' => e = .returned (.string (strL (volS n))) ∧ Below w.heap.size w w' := by
  have HC := Lib.hid (counted_any n w)
  by_cases h : 0 ≤ n ∧ n ≤ 999
  · rw [decide_eq_true h] at HC
    obtain ⟨k, rfl⟩ : ∃ k : Nat, n = (k : Int) := ⟨n.toNat, by omega⟩
    have HI := Lib.hid (itoa_any k (by omega) w hc)
    have HV : Hid (strL (Lib.decDigits k) ++ ⟨#[46, 103, 121, 115]⟩ = strL (volS (k : Int))) := by
      show _ = _
      unfold volS
      rw [if_pos h]
      exact strL_append _ gysL
    clear hc
    have hz := dd_size (k := k) (by omega)
    go_enter Tryd.func24, Tryd.ntmps24
    go_wp2_with first
      | (go_at_call 47; refine HC.out.mono ?_; rintro e w' ⟨rfl, hw⟩; obtain rfl := hw.symm)
      | (go_at_call 48; refine HI.out.mono ?_; rintro e w1 ⟨rfl, hb⟩)
    go_ret
    exact ⟨by rw [← HV.out]; rfl, hb⟩
  · rw [decide_eq_false h] at HC
    have HV : Hid (volS n = []) := by
      show _ = _
      unfold volS
      rw [if_neg h]
    clear hc
    go_enter Tryd.func24, Tryd.ntmps24
    go_wp2_with (go_at_call 47; refine HC.out.mono ?_; rintro e w' ⟨rfl, hw⟩; obtain rfl := hw.symm)
    go_ret
    exact ⟨by rw [HV.out]; rfl, Below.refl _ _⟩
set_option maxRecDepth 100000 in
theorem fresh_any (n : Int) (w : World) (hc : Cv w) : Calls Tryd.prog 25 #[.int .i64 n] w fun e w' => e = .returned (.string (strL (freshS n))) ∧ Below w.heap.size w w' := by
  have HC := Lib.hid (counted_any n w)
  by_cases h : 0 ≤ n ∧ n ≤ 999
  · rw [decide_eq_true h] at HC
    obtain ⟨k, rfl⟩ : ∃ k : Nat, n = (k : Int) := ⟨n.toNat, by omega⟩
    have HI := Lib.hid (itoa_any k (by omega) w hc)
    have HV : Hid (⟨#[116, 109, 112, 47]⟩ ++ strL (Lib.decDigits k) = strL (freshS (k : Int))) := by
      show _ = _
      unfold freshS
      rw [if_pos h]
      exact strL_append tmpL _
    have hz := dd_size (k := k) (by omega)
    clear hc
    go_enter Tryd.func25, Tryd.ntmps25
    go_wp2_with first
      | (go_at_call 47; refine HC.out.mono ?_; rintro e w' ⟨rfl, hw⟩; obtain rfl := hw.symm)
      | (go_at_call 48; refine HI.out.mono ?_; rintro e w1 ⟨rfl, hb⟩)
    go_ret
    exact ⟨by rw [← HV.out]; rfl, hb⟩
  · rw [decide_eq_false h] at HC
    have HV : Hid (freshS n = []) := by
      show _ = _
      unfold freshS
      rw [if_neg h]
    clear hc
    go_enter Tryd.func25, Tryd.ntmps25
    go_wp2_with (go_at_call 47; refine HC.out.mono ?_; rintro e w' ⟨rfl, hw⟩; obtain rfl := hw.symm)
    go_ret
    exact ⟨by rw [HV.out]; rfl, Below.refl _ _⟩
set_option maxRecDepth 100000 in
theorem aside_any (s : ByteArray) (hs : s.size ≤ 100000) (n : Int) (w : World) (hc : Cv w) : Calls Tryd.prog 26 #[.string s, .int .i64 n] w fun e w' => e = .returned (.string (strL (asideS s.data.toList n))) ∧ Below w.heap.size w w' := by
  have HC := Lib.hid (counted_any n w)
  by_cases h : 0 ≤ n ∧ n ≤ 999
  · rw [decide_eq_true h] at HC
    obtain ⟨k, rfl⟩ : ∃ k : Nat, n = (k : Int) := ⟨n.toNat, by omega⟩
    have HI := Lib.hid (itoa_any k (by omega) w hc)
    have HV : Hid (⟨#[111, 108, 100, 47]⟩ ++ strL (Lib.decDigits k) ++ ⟨#[47]⟩ ++ s = strL (asideS s.data.toList (k : Int))) := by
      show _ = _
      unfold asideS
      rw [if_pos h, ← strL_append, ← strL_append, ← strL_append, strL_eta]
      rfl
    have hz := dd_size (k := k) (by omega)
    clear hc
    go_enter Tryd.func26, Tryd.ntmps26
    go_wp2_with first
      | (go_at_call 47; refine HC.out.mono ?_; rintro e w' ⟨rfl, hw⟩; obtain rfl := hw.symm)
      | (go_at_call 48; refine HI.out.mono ?_; rintro e w1 ⟨rfl, hb⟩)
    go_ret
    exact ⟨by rw [← HV.out]; rfl, hb⟩
  · rw [decide_eq_false h] at HC
    have HV : Hid (asideS s.data.toList n = []) := by
      show _ = _
      unfold asideS
      rw [if_neg h]
    clear hc
    go_enter Tryd.func26, Tryd.ntmps26
    go_wp2_with (go_at_call 47; refine HC.out.mono ?_; rintro e w' ⟨rfl, hw⟩; obtain rfl := hw.symm)
    go_ret
    exact ⟨by rw [HV.out]; rfl, Below.refl _ _⟩

/-- Which volume's name it is; -1: none's. -/
def numN (l : List UInt8) : Int := if Lib.hasSuffix l gysL = true then (match Lib.atoiAll (Lib.trimSuffix l gysL) with | .ok v => if volS v = l then v else -1 | _ => -1) else -1
/-- strconv.Atoi: a number and no error, or an error. -/
theorem atoi_any (s : ByteArray) (hs : s.size ≤ 100000) (w : World) (hc : Cv w) :
    Calls Tryd.prog 46 #[.string s] w fun e w' => ((∃ v, Lib.atoiAll s.data.toList = .ok v ∧ -9223372036854775808 ≤ v ∧ v ≤ 9223372036854775807 ∧ e = .returned (.tuple #[.int .i64 v, .nilIface])) ∨
      ((∀ v, Lib.atoiAll s.data.toList ≠ .ok v) ∧ ∃ v t p, e = .returned (.tuple #[.int .i64 v, .iface t p]))) ∧ Below w.heap.size w w' := by
  cases h : Lib.atoiAll s.data.toList with
  | ok v =>
    refine (Any.strconv_Atoi_ok lay_atoiB s (by omega) v h w).mono ?_
    rintro e w' ⟨rfl, hw⟩
    refine ⟨.inl ⟨v, rfl, (Lib.atoiAll_bounds h).1, (Lib.atoiAll_bounds h).2, rfl⟩, ?_⟩
    rcases hw with rfl | ⟨t, rfl⟩
    · exact Below.refl _ _
    · exact Lib.bytesWorld_below _ _ _
  | «syntax» =>
    obtain ⟨t, p, hv⟩ := hc.syn
    refine (Any.strconv_Atoi_syntax_var lay_atoiB s (by omega) h t p w hv).mono ?_
    rintro e w' ⟨N, rfl, _, _, hb⟩
    exact ⟨.inr ⟨fun v e => (by cases e), _, _, _, rfl⟩, hb⟩
  | range =>
    obtain ⟨t, p, hv⟩ := hc.ran
    refine (Any.strconv_Atoi_range_var lay_atoiB s (by omega) h t p w hv).mono ?_
    rintro e w' ⟨N, rfl, _, _, hb⟩
    exact ⟨.inr ⟨fun v e => (by cases e), _, _, _, rfl⟩, hb⟩
end Go.Proofs.YthpinjmlnongpaaDoor
