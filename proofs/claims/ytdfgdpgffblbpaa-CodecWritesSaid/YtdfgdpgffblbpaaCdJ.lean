/-
  bytes.Join of nothing between: the pieces one behind the other.
-/
import Derived.Test.YtdfgdpgffblbpaaCdV
namespace Go.Proofs.Ytdfgdpgffblbpaa
open Go.ChangeShapes Go.WideShapes Go.ChangeAt Go.RowKit Go.Joins
set_option linter.unusedVariables false

def u8L (l : List Nat) : List UInt8 := l.map fun n => UInt8.ofNat n
theorem u8L_len (l : List Nat) : (u8L l).length = l.length := by simp [u8L]
theorem u8L_get {l : List Nat} (hb : IsByte l) {i : Nat} {x : UInt8} (h : (u8L l)[i]? = some x) : ∃ hi : i < l.length, (x.toNat : Int) = ((l[i] : Nat) : Int) := by
  unfold u8L at h
  rw [List.getElem?_map] at h
  obtain ⟨n, hn, rfl⟩ := Option.map_eq_some_iff.1 h
  obtain ⟨hi, rfl⟩ := List.getElem?_eq_some_iff.1 hn
  have := hb l[i] (List.getElem_mem hi)
  refine ⟨hi, ?_⟩
  simp
  omega
theorem holds_of_sl {w : World} {a : Option Addr} {c : Nat} {l : List Nat} (h : Sl w a c l) : Lib.HoldsBytes w (.slice a l.length c) (u8L l) := by
  refine ⟨a, c, by rw [u8L_len], fun e => by rw [(h.none e).1]; rfl, fun p hp i x hx => ?_⟩
  obtain ⟨hi, e⟩ := u8L_get h.byte hx
  obtain ⟨b, off, e1, hb⟩ := h.some hi
  rw [e1] at hp
  cases hp
  have := hb i hi
  rw [e]
  by_cases i0 : i = 0
  · subst i0; simpa [Addr.add] using this
  · simpa [Addr.add, i0] using this
theorem join_flat : ∀ (ls : List (List Nat)), Lib.join (ls.map u8L) [] = u8L ls.flatten
  | [] => rfl
  | x :: r => by
    rw [List.map_cons, Lib.join_cons]
    unfold Lib.joinTail
    simp [u8L, List.map_flatten]
    rfl
theorem lens_flat : ∀ (ls : List (List Nat)), Lib.lens (ls.map u8L) = ls.flatten.length
  | [] => rfl
  | x :: r => by
    have := lens_flat r
    simp only [Lib.lens, List.map_cons, List.sum_cons, List.flatten_cons, List.length_append, u8L_len] at this ⊢
    omega
theorem sl_of_fresh {B : Nat} {w : World} {v : Value} {l : List Nat} (hb : IsByte l) (h : Lib.FreshBytes B w v (u8L l)) : ∃ a c, v = .slice a l.length c ∧ Sl w a c l := by
  obtain ⟨g, cap, zs, rfl, h1, h2, h3, h4, h5, h6, h7, h8⟩ := h
  rw [u8L_len] at h2 h6 ⊢
  refine ⟨_, _, rfl, hb, h2, h3, fun e => (by cases e), .inr ⟨g, 0, rfl, fun i hi => ?_⟩⟩
  rw [Nat.zero_add, h7 i (by omega)]
  have hz : i < zs.length := by omega
  have h9 : (Lib.bytesOf (zs.take l.length))[i]? = (u8L l)[i]? := by rw [h6]
  have hr := h5 zs[i] (List.getElem_mem hz)
  have hn := hb l[i] (List.getElem_mem hi)
  simp only [Lib.bytesOf, u8L, List.getElem?_map, List.getElem?_take, if_pos hi, List.getElem?_eq_getElem hz, List.getElem?_eq_getElem hi, Option.map_some, Option.some.injEq] at h9
  have h10 : zs[i].toNat % 256 = l[i] % 256 := by
    have := congrArg UInt8.toNat h9
    simpa using this
  have e : zs.getD i 0 = zs[i] := by simp [List.getD, hz]
  rw [e]
  congr 2
  omega

theorem join_any (g cap : Nat) (ls : List (List Nat)) (A : Nat → Option Addr) (C : Nat → Nat) (w : World) (hR : Row w g 28 cap ls.length (fun j => .slice (A j) (ls.getD j []).length (C j))) (hc : ls.length ≤ cap)
    (hS : ∀ j, j < ls.length → Sl w (A j) (C j) (ls.getD j [])) (hne : ∀ x ∈ ls, x ≠ []) (hn : ls.length ≤ 1000000) (ht : ls.flatten.length ≤ 1000000) :
    Calls Try.prog 26 #[.slice (some ⟨g, 0, none⟩) ls.length cap, .slice none 0 0] w fun e w' => ∃ a c, e = .returned (.slice a ls.flatten.length c) ∧ Sl w' a c ls.flatten ∧ Below w.heap.size w w' := by
  have hby : ∀ x ∈ ls, IsByte x := fun x hx => by
    obtain ⟨i, hi, rfl⟩ := List.getElem_of_mem hx
    have := (hS i hi).byte
    simpa [List.getD, hi] using this
  have hbf : IsByte ls.flatten := fun n hn => by
    obtain ⟨x, hx, hnx⟩ := List.mem_flatten.1 hn
    exact hby x hx n hnx
  match ls, hR, hc, hS, hne, hn, ht, hby, hbf with
  | [], hR, hc, hS, hne, hn, ht, hby, hbf =>
    have := Any.bytes_Join_none lay_joinB (some ⟨g, 0, none⟩) cap (.slice none 0 0) w
    refine Calls.mono (P := Try.prog) (f := 26) this ?_
    rintro e w' ⟨rfl, rfl⟩
    exact ⟨_, 0, rfl, ⟨hbf, by simp, by simp, fun e => (by cases e), .inl rfl⟩, (Below.refl _ _).alloc (Nat.le_refl _) _⟩
  | [x], hR, hc, hS, hne, hn, ht, hby, hbf =>
    have hs0 : Sl w (A 0) (C 0) x := by simpa [List.getD] using hS 0 (by simp)
    have hx := hne x (by simp)
    have hx0 : 0 < x.length := List.length_pos_iff.2 hx
    obtain ⟨b, off, e, hb⟩ := hs0.some hx0
    have hcell : w.cell? ⟨g, 0, none⟩ = some (.slice (some ⟨b, off, none⟩) (u8L x).length (C 0)) := by
      rw [hR.cell 0 (by simp), u8L_len, e]
      simp [List.getD]
    have hh := holds_of_sl hs0
    obtain ⟨p, c', e1, _, h2⟩ := hh
    have hp : p = some ⟨b, off, none⟩ := by
      rw [e] at e1
      injection e1 with q1 _ _
      exact q1.symm
    have := Any.bytes_Join_one lay_joinB g 0 cap ⟨b, off, none⟩ (C 0) (u8L x) (.slice none 0 0) w hcell (fun i y hy => h2 _ hp i y hy) (by rw [u8L_len]; exact hx0) (by rw [u8L_len]; simp at ht; omega)
    refine Calls.mono (P := Try.prog) (f := 26) this ?_
    rintro e w' ⟨v, rfl, hf, hbl⟩
    have hxf : [x].flatten = x := by simp
    rw [hxf] at hbf ⊢
    obtain ⟨a, c, rfl, hsl⟩ := sl_of_fresh hbf hf
    exact ⟨a, c, rfl, hsl, hbl⟩
  | x :: y :: r, hR, hc, hS, hne, hn, ht, hby, hbf =>
    generalize hls : x :: y :: r = ls at *
    have h2 : 2 ≤ ls.length := by rw [← hls]; simp
    have hP : Lib.PartsAt w ⟨g, 0, none⟩ ((List.range ls.length).map fun j => Value.slice (A j) (ls.getD j []).length (C j)) (ls.map u8L) := by
      refine ⟨by simp, fun i v hv => ?_, fun i v l hv hl => ?_⟩
      · rw [List.getElem?_map] at hv
        obtain ⟨j, hj, rfl⟩ := Option.map_eq_some_iff.1 hv
        obtain ⟨hi, rfl⟩ := List.getElem?_eq_some_iff.1 hj
        have hi2 : i < ls.length := by simpa using hi
        have := hR.cell i hi2
        by_cases i0 : i = 0
        · subst i0; simpa [Addr.add] using this
        · simpa [Addr.add, i0] using this
      · rw [List.getElem?_map] at hv hl
        obtain ⟨j, hj, rfl⟩ := Option.map_eq_some_iff.1 hv
        obtain ⟨hi, rfl⟩ := List.getElem?_eq_some_iff.1 hj
        obtain ⟨m, hm, rfl⟩ := Option.map_eq_some_iff.1 hl
        obtain ⟨hi2, rfl⟩ := List.getElem?_eq_some_iff.1 hm
        have := hS i hi2
        have e : ls.getD i [] = ls[i] := by simp [List.getD, hi2]
        rw [e] at this
        have h := holds_of_sl this
        simpa [hi2] using h
    have := Any.bytes_Join_many lay_joinB g 0 ls.length cap _ (ls.map u8L) (.slice none 0 0) [] w (by simp) h2 hP hc ⟨none, 0, rfl, fun _ => rfl, fun a ha => by cases ha⟩ (by omega) (by rw [lens_flat, List.length_nil, Nat.zero_mul]; omega)
    refine Calls.mono (P := Try.prog) (f := 26) this ?_
    rintro e w' ⟨v, rfl, hf, hbl⟩
    rw [join_flat] at hf
    obtain ⟨a, c, rfl, hsl⟩ := sl_of_fresh hbf hf
    exact ⟨a, c, rfl, hsl, hbl⟩
end Go.Proofs.Ytdfgdpgffblbpaa
