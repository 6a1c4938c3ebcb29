/-
  The document's Echelon and Rank.
  The document's Echelon of no rows, and its Rank.
-/
import Derived.Test.YtacncbojplmcjaaMg7
import Derived.Deep.CutRange
import Derived.Laws.AppendOwnNone
section
namespace Go.Proofs.Ytacncbojplmcjaa
open Go.ChangeShapes Go.WideShapes Go.ChangeAt Go.RowKit Go.Joins
set_option linter.unusedVariables false

/-- Block g begins with slices that read as ls. -/
structure Lst (B : Nat) (w : World) (g : Nat) (ls : Rws) : Prop where
  ge : B ≤ g
  blk : ∃ cur, w.heap[g]? = some (.cells cur 38 (0, 0)) ∧ ls.length ≤ cur.size
  rows : RowsIn B w g 0 ls
theorem Lst.lt {B : Nat} {w : World} {g : Nat} {ls : Rws} (h : Lst B w g ls) : g < w.heap.size := by
  obtain ⟨cur, e, _⟩ := h.blk
  exact (Array.getElem?_eq_some_iff.1 e).1
theorem Lst.other {B : Nat} {w : World} {g : Nat} {ls : Rws} (h : Lst B w g ls) : Other B w g := by
  obtain ⟨cur, e, _⟩ := h.blk
  exact ⟨h.ge, cur, _, _, e, by decide⟩
theorem Lst.loose {B : Nat} {w : World} {g : Nat} {ls : Rws} (h : Lst B w g ls) (i : Nat) : w.frozen? ⟨g, i, none⟩ = false := by
  obtain ⟨cur, e, _⟩ := h.blk
  exact unfrozen_of_block e i
theorem Lst.cell {B : Nat} {w : World} {g : Nat} {ls : Rws} (h : Lst B w g ls) {i : Nat} (hi : i < ls.length) : ∃ a c, w.cell? ⟨g, i, none⟩ = some (.slice a ls[i].length c) ∧ Rw B w a c ls[i] := by
  have := h.rows i hi
  simpa using this
theorem Lst.keep {B : Nat} {w w' : World} {g : Nat} {ls : Rws} (h : Lst B w g ls) (k : Keep B w w') (e : w'.heap[g]? = w.heap[g]?) : Lst B w' g ls := by
  obtain ⟨cur, e1, e2⟩ := h.blk
  refine ⟨h.ge, ⟨cur, e.trans e1, e2⟩, fun i hi => ?_⟩
  obtain ⟨a, c, h1, h2⟩ := h.rows i hi
  exact ⟨a, c, by rw [World.cell?_of_block (w := w) (a := ⟨g, 0 + i, none⟩) e]; exact h1, h2.keep k⟩
theorem Lst.below {B : Nat} {w w' : World} {g : Nat} {ls : Rws} (h : Lst B w g ls) (k : Below w.heap.size w w') : Lst B w' g ls := h.keep (Keep.of_below k) (k.block g h.lt)
theorem Lst.set {B : Nat} {w : World} {g : Nat} {ls : Rws} (h : Lst B w g ls) {i : Nat} (hi : i < ls.length) {a : Option Addr} {c : Nat} {l : List Nat} (hr : Rw B w a c l) {n : Nat} (hn : l.length = n) :
    Lst B (w.setCell ⟨g, i, none⟩ (.slice a n c)) g (ls.set i l) := by
  subst hn
  obtain ⟨cur, e1, e2⟩ := h.blk
  have hk : Keep B w (w.setCell ⟨g, i, none⟩ (.slice a l.length c)) := (Keep.refl B w).set (p := ⟨g, i, none⟩) h.other _
  refine ⟨h.ge, ⟨_, block_setCell e1 _, by rw [List.length_set]; simpa using e2⟩, fun j hj => ?_⟩
  rw [List.length_set] at hj
  by_cases e : j = i
  · subst e
    refine ⟨a, c, ?_, ?_⟩
    · rw [cell_of_block (block_setCell e1 _)]
      simp [show j < cur.size by omega]
    · simpa using hr.keep hk
  · obtain ⟨a', c', h1, h2⟩ := h.rows j hj
    refine ⟨a', c', ?_, ?_⟩
    · rw [World.cell?_setCell_other _ _ _ _ (by intro h; apply e; simpa using (congrArg Addr.off h).symm)]
      simpa [List.getElem_set_ne (Ne.symm e)] using h1
    · simpa [List.getElem_set_ne (Ne.symm e)] using h2.keep hk
theorem Lst.rs {B : Nat} {w : World} {g : Nat} {ls : Rws} (h : Lst B w g ls) {cap : Nat} (h1 : ls.length ≤ cap) (h2 : cap ≤ maxLen) : Rs w.heap.size w (some ⟨g, 0, none⟩) cap ls :=
  ⟨h1, h2, fun e => (by cases e), .inr ⟨g, 0, rfl, h.lt, fun i hi => by
    obtain ⟨a, c, e1, e2⟩ := h.rows i hi
    exact ⟨a, c, e1, Rw.of_sl e2.sl⟩⟩⟩
theorem Lst.of_own {B : Nat} {w : World} {g cap : Nat} {ls : Rws} {xs : List Value} (h : w.ownsRow B 38 1 (.slice (some ⟨g, 0, none⟩) ls.length cap) ls.length xs)
    (hx : ∀ i (h : i < ls.length), ∃ a c, xs[i]? = some (.slice a ls[i].length c) ∧ Rw B w a c ls[i]) : Lst B w g ls := by
  rcases h.2 with ⟨e, _⟩ | ⟨g', cap', cur, e, hb, hh, h1, h2, h3, h4⟩
  · cases e
  · cases e
    refine ⟨hb, ⟨cur, hh, by omega⟩, fun i hi => ?_⟩
    obtain ⟨a, c, e1, e2⟩ := hx i hi
    refine ⟨a, c, ?_, e2⟩
    have := h.cells (g := g) rfl i _ e1
    by_cases hi0 : i = 0
    · subst hi0; simpa [Addr.add] using this
    · simpa [Addr.add, hi0] using this

/-- append([][]byte{}, rows...), of rows that aren't none. -/
theorem wpList_all_rows {ops : Array Oper} {rest : List Oper} {o : Oper} {a : Act} {Q : Exit → Act → World → Prop} (w : World) (hgd : o.guard = none) (s x : Operand)
    (ho : o.op = .call { callee := .builtin .append, args := #[s, x], argTypes := #[36, 36] })
    (B : Nat) (v : Value) (hs : a.eval s = v) (hown : w.ownsRow B 38 1 v 0 []) (ra : Option Addr) (cap : Nat) (ls : Rws) (hx : a.eval x = .slice ra ls.length cap) (hR : Rs B w ra cap ls) (hB : B ≤ w.heap.size) (h0 : 0 < ls.length) (hlen : ls.length ≤ 100000)
    (h : ∀ g c w', c ≤ maxLen → ls.length ≤ c → Hid (Lst B w' g ls) → Keep B w w' → wpList Try.prog ops Q rest (a.put o.dst (.slice (some ⟨g, 0, none⟩) ls.length c)) w') : wpList Try.prog ops Q (o :: rest) a w := by
  obtain ⟨i0, hi, hz0, hz1, hz2⟩ := info_parts infoR
  obtain ⟨b, off, rfl, hb, hr⟩ := hR.some h0
  obtain ⟨y, hy⟩ := Go.Deep.choose_lt (α := Option Addr × Nat) (n := ls.length) (p := fun i x => ∀ h : i < ls.length, w.cell? ⟨b, off + i, none⟩ = some (.slice x.1 ls[i].length x.2) ∧ Rw B w x.1 x.2 ls[i]) (fun i hi => by
    obtain ⟨a', c', h1, h2⟩ := hr i hi
    exact ⟨(a', c'), fun _ => ⟨h1, h2⟩⟩)
  have hnews : ∀ i, i < ls.length → ((List.range ls.length).map fun i => Value.slice (y i).1 (ls.getD i []).length (y i).2)[i]? = some (.slice (y i).1 (ls.getD i []).length (y i).2) := fun i hi => by simp [hi]
  refine wpList_append_own w hgd s x 36 ho B 38 i0 (.slice none 0 0) 1 24 Try.underlying36 hi hz0 hz1 hz2 rfl (by decide) v 0 [] hs hown ⟨b, off, none⟩ ls.length cap ((List.range ls.length).map fun i => Value.slice (y i).1 (ls.getD i []).length (y i).2) hx (by simp) (fun j u hu => ?_) (fun u hu => ?_) (by unfold maxLen; omega) (by omega) hB ?_
  · have hj : j < ls.length := by
      rcases Nat.lt_or_ge j ls.length with h | h
      · exact h
      · rw [List.getElem?_eq_none (by simp; exact h)] at hu; cases hu
    rw [hnews j hj] at hu
    cases hu
    have := (hy j hj hj).1
    rw [getR hj]
    by_cases hj0 : j = 0
    · subst hj0; simpa [Addr.add] using this
    · simpa [Addr.add, hj0] using this
  · obtain ⟨i, _, rfl⟩ := List.mem_map.1 hu
    rfl
  intro v' w' h1 h2 _
  have hk : Keep B w w' := (Keep.refl B w).grown h2 (Other.of_own hown (by decide))
  simp only [List.nil_append, Nat.zero_add] at h1
  rcases h1.2 with ⟨e, he⟩ | ⟨g', cap', cur, e, hb', hh, q1, q2, q3, q4⟩
  · omega
  · subst e
    refine h g' cap' w' q2 q1 (Lst.of_own h1 fun i hi' => ?_) hk
    refine ⟨(y i).1, (y i).2, by rw [hnews i hi', getR hi'], ((hy i hi' hi').2).keep hk⟩

def pivI : Option Nat → Value
  | none => .int .i64 (-1)
  | some k => .int .i64 (k : Int)
theorem pivTo_low {l : Rws} {c r : Nat} : ∀ i, i ≤ r → pivTo l c r i = none
  | 0, _ => rfl
  | i + 1, h => by
    have h2 : ¬ (r ≤ i ∧ at2 l i c ≠ 0) := fun e => by have := e.1; omega
    have h3 := pivTo_low (l := l) (c := c) (r := r) i (by omega)
    simp only [pivTo, h3, if_neg h2]
theorem pivTo_one {l : Rws} {c r i k : Nat} (h : pivTo l c r i = some k) : pivTo l c r (i + 1) = some k := by simp only [pivTo, h]
theorem pivTo_two {l : Rws} {c r i : Nat} (h : pivTo l c r i = none) (hr : r ≤ i) (h0 : at2 l i c ≠ 0) : pivTo l c r (i + 1) = some i := by simp only [pivTo, h]; rw [if_pos ⟨hr, h0⟩]
theorem pivTo_three {l : Rws} {c r i : Nat} (h : pivTo l c r i = none) (h0 : at2 l i c = 0) : pivTo l c r (i + 1) = none := by simp only [pivTo, h]; rw [if_neg (fun e => e.2 h0)]
theorem at2_get {l : Rws} {i c : Nat} (hi : i < l.length) (hc : c < l[i].length) : at2 l i c = l[i][c] := by unfold at2; rw [getR hi, getD_get hc]

/-- Another kind's block is written. -/
theorem own_set {w : World} {B size n g : Nat} {e t : TypeId} {v : Value} {xs : List Value} {cur : Array Value} {r : Nat × Nat} (h : w.ownsRow B e size v n xs) (hg : w.heap[g]? = some (.cells cur t r)) (hne : e ≠ t) (i : Nat) (u : Value) : (w.setCell ⟨g, i, none⟩ u).ownsRow B e size v n xs := by
  refine h.kept (row := some g) ⟨rfl, rfl, rfl, by simp, fun k hk hkg => Below.heap_setCell _ _ _ _ fun e => hkg (by rw [e])⟩ ?_
  rcases h.2 with ⟨rfl, _⟩ | ⟨g', cap', cur', rfl, _, hh, _⟩
  · exact .inl rfl
  · refine .inr fun e' => ?_
    have : g' = g := by simpa [Value.ownBlock] using e'
    subst this
    rw [hh] at hg
    injection hg with hg
    injection hg with _ e3
    exact hne e3
theorem OwnI.set_lst {B : Nat} {w : World} {v : Value} {P : List Nat} {g : Nat} {ls : Rws} (h : OwnI B w v P) (hl : Lst B w g ls) (i : Nat) (u : Value) : OwnI B (w.setCell ⟨g, i, none⟩ u) v P := by
  obtain ⟨cur, e, _⟩ := hl.blk
  exact own_set h e (by decide) i u

structure EchSt (W w : World) (g : Nat) (rows : Rws) (c : Nat) (vp : Value) : Prop where
  lst : Lst W.heap.size w g (echTo rows c).1
  pl : OwnI W.heap.size w vp (echTo rows c).2
  keep : Keep W.heap.size W w

/-- Rows and places, in the middle of a round. -/
structure Mid (W w : World) (g : Nat) (ls : Rws) (vp : Value) (P : List Nat) : Prop where
  lst : Lst W.heap.size w g ls
  pl : OwnI W.heap.size w vp P
  keep : Keep W.heap.size W w

theorem Lst.grown {B : Nat} {w w' : World} {g : Nat} {ls : Rws} {v : Value} {P : List Nat} (h : Lst B w g ls) (hp : OwnI B w v P) (hg : w.grownBy w' v.ownBlock) : Lst B w' g ls := by
  refine h.keep (hp.keep_push hg (Keep.refl B w)) (hg.block g h.lt fun e => ?_)
  obtain ⟨cur, e1, _⟩ := h.blk
  rcases hp.2 with ⟨rfl, _⟩ | ⟨g', cap', cur', rfl, _, hh, _⟩
  · simp [Value.ownBlock] at e
  · have : g = g' := by simpa [Value.ownBlock] using e
    subst this
    rw [e1] at hh
    injection hh with hh
    injection hh with _ e3
    exact absurd e3 (by decide)
theorem elim_skip {l : Rws} {r c j : Nat} (h : j = r ∨ at2 (elimTo l r c j) j c = 0) : elimTo l r c (j + 1) = elimTo l r c j := by
  simp only [elimTo]
  rw [if_neg]
  rintro ⟨h1, h2⟩
  rcases h with h | h
  · exact h1 h
  · exact h2 h

def EchPost (rows : Rws) (n : Nat) (w : World) (e : Ending) (w' : World) : Prop :=
  ∃ g cap vp, e = .returned (.tuple #[.slice (some ⟨g, 0, none⟩) rows.length cap, vp]) ∧ Rs w'.heap.size w' (some ⟨g, 0, none⟩) cap (echTo rows n).1 ∧ OwnI w.heap.size w' vp (echTo rows n).2 ∧ Below w.heap.size w w'

theorem plus_zeros (l : List Nat) (c : Nat) : plusN (List.replicate l.length 0) l c = scaleN l c := by
  apply List.ext_getElem
  · simp [plusN, scaleN]
  · intro i h1 h2
    simp [plusN, scaleN]

set_option maxRecDepth 100000 in
set_option maxHeartbeats 4000000 in
theorem echelon_some (B : Nat) (a : Option Addr) (cap : Nat) (rows : Rws) (m L n : Nat) (w : World) (hB : B ≤ w.heap.size) (hs : Rs B w a cap rows) (hrect : Rect rows m L) (hn : n ≤ L) (hm : 0 < m) (hm2 : m ≤ 1000) (hL : L ≤ 1000) :
    Calls Try.prog 17 #[.slice a rows.length cap, .int .i64 (n : Int)] w (EchPost rows n w) := by
  have HR := Lib.hid hrect
  have HM := Lib.hid hrect.rows
  have hs2 : Rs w.heap.size w a cap rows := ⟨hs.len, hs.most, hs.none, hs.here.imp id fun ⟨b, off, e, hb, hr⟩ => ⟨b, off, e, by omega, fun i hi => by
    obtain ⟨a', c', h1, h2⟩ := hr i hi
    exact ⟨a', c', h1, Rw.of_sl h2.sl⟩⟩⟩
  have HS := Lib.hid hs2
  have hlen : rows.length ≤ 100000 := by rw [HM.out]; omega
  have hpos : 0 < rows.length := by rw [HM.out]; exact hm
  have hlt0 := hs.lt
  clear hs hs2 hrect
  go_enter Try.func17, Try.ntmps17
  go_wp2_with (at_builtin; refine wpList_all_rows _ rfl (.tmp 14) (.tmp 15) rfl w.heap.size _ rfl (World.ownsRow_made w #[] 0 (Nat.le_refl _) (Nat.zero_le _) rfl) a cap rows rfl (HS.out.keep (Nat.le_refl _) (Keep.of_below ((Below.refl _ _).alloc (Nat.le_refl _) _))) (by simp) hpos hlen ?_; intro g gc w1 hgc hgl HL1 hk1)
  have HK1 : Hid (Keep w.heap.size w w1) := ((Keep.refl _ w).alloc _).trans hk1
  have hml := HM.out
  generalize rows.length = m0 at *
  obtain rfl : m0 = m := hml
  clear hk1 HS
  go_loopw [7, 18] (fun vp i wr => ∃ c : Nat, c ≤ n ∧ i = .int .i64 c ∧ Hid (EchSt w wr g rows c vp)) (fun _ i _ => n - (intOf i).toNat)
  case atStart => exact ⟨0, by omega, rfl, ⟨HL1.out, OwnI.nil _ _, HK1.out⟩⟩
  case round =>
    obtain ⟨c, hc, rfl, HE⟩ := hrel
    clear HL1 HK1
    by_cases hlt : c < n
    · have R := red_to HR.out c
      have HNX : Hid (echTo rows (c + 1) = echStep (echTo rows c) c) := rfl
      obtain ⟨l, P, hlP⟩ : ∃ l P, echTo rows c = (l, P) := ⟨_, _, rfl⟩
      have HLS := HE.out.lst
      have HPL := HE.out.pl
      have HKE := Lib.hid HE.out.keep
      rw [hlP] at R HLS HPL HNX
      simp only at R HLS HPL
      clear HE hlP
      have hrl := R.rect.rows
      have hfew := R.few
      have RR := Lib.hid R.rect
      clear R
      obtain ⟨pa, pcap, rfl, hpc, _⟩ := HPL.form
      have HP := Lib.hid HPL
      have HL := Lib.hid HLS
      have HRL := Lib.hid hrl
      clear HPL HLS hrl
      go_wp2_with fail
      go_loop [10, 11] (fun kk ii => ∃ i : Nat, P.length ≤ i ∧ i ≤ m0 ∧ ii = .int .i64 i ∧ kk = pivI (pivTo l c P.length i)) (fun _ ii => m0 - (intOf ii).toNat)
      case atStart => exact ⟨P.length, Nat.le_refl _, by omega, rfl, by rw [pivTo_low _ (Nat.le_refl _)]; rfl⟩
      case round =>
        obtain ⟨i, hi1, hi2, rfl, rfl⟩ := hrel
        by_cases hil : i < m0
        · cases hpv : pivTo l c P.length i with
          | some k =>
            have HV := Lib.hid (pivTo_one hpv)
            clear hpv
            simp only [pivI]
            have hd : ¬ (k : Int) < 0 := by omega
            go_wp2_with fail
            go_round
            case rel => exact ⟨i + 1, by omega, by omega, by go_num, by rw [HV.out]⟩
            case measure => simp [intOf]; omega
          | none =>
            simp only [pivI]
            have hil2 : i < l.length := by rw [HRL.out]; exact hil
            obtain ⟨ai, ci, hck, hrw⟩ := HL.out.cell hil2
            have hxl : l[i].length = L := RR.out.len _ (List.getElem_mem hil2)
            have hcl : c < l[i].length := by omega
            obtain ⟨b, off, rfl, hb⟩ := hrw.sl.some hcl
            have hcb := hb c hcl
            have hxb : l[i][c] < 256 := hrw.sl.byte _ (List.getElem_mem hcl)
            have ha2 := at2_get hil2 hcl
            have hi3 : (c : Int) < (l[i].length : Int) := by omega
            by_cases h0 : l[i][c] = 0
            · have HV := Lib.hid (pivTo_three hpv (ha2.trans h0))
              rw [h0] at hcb
              have hn0 : (((0 : Nat) : Int) != 0) = false := rfl
              clear hpv ha2 hb hrw h0 hxb
              rw [hxl] at hck hi3
              clear hxl hcl
              go_wp2_with fail
              go_round
              case rel => exact ⟨i + 1, by omega, by omega, by go_num, by rw [HV.out]⟩
              case measure => simp [intOf]; omega
            · have HV := Lib.hid (pivTo_two hpv hi1 (by rw [ha2]; exact h0))
              generalize l[i][c] = y at *
              have hn0 : ((y : Int) != 0) = true := by simp; omega
              clear hpv ha2 hb hrw h0
              rw [hxl] at hck hi3
              clear hxl hcl
              go_wp2_with fail
              go_round
              case rel => exact ⟨i + 1, by omega, by omega, by go_num, by rw [HV.out]⟩
              case measure => simp [intOf]; omega
        · obtain rfl : i = m0 := by omega
          cases hpv : pivTo l c P.length i with
          | none =>
            have HX : Hid (echTo rows (c + 1) = (l, P)) := by
              show _ = _
              rw [HNX.out]; unfold echStep; simp only; rw [HRL.out, hpv]
            clear hpv
            simp only [pivI]
            go_wp2_with fail
            go_roundw
            case rel => exact ⟨c + 1, by omega, by go_num, ⟨by rw [HX.out]; exact HL.out, by rw [HX.out]; exact HP.out, HKE.out⟩⟩
            case measure => simp [intOf]; omega
          | some k =>
            obtain ⟨hk1, hk2, hk3⟩ := pivTo_some hpv
            have HX : Hid (echTo rows (c + 1) = (elimTo (swapped l P.length k c) P.length c i, P ++ [c])) := by
              show _ = _
              rw [HNX.out]; unfold echStep; simp only; rw [HRL.out, hpv]
            clear hpv
            simp only [pivI]
            have hd : ¬ (k : Int) < 0 := by omega
            have hkl : k < l.length := by rw [HRL.out]; exact hk2
            have hrl : P.length < l.length := by rw [HRL.out]; omega
            obtain ⟨ak, ck, hckk, hrwk⟩ := HL.out.cell hkl
            obtain ⟨ar, cr, hckr, hrwr⟩ := HL.out.cell hrl
            have hxk : l[k].length = L := RR.out.len _ (List.getElem_mem hkl)
            have hxr : l[P.length].length = L := RR.out.len _ (List.getElem_mem hrl)
            have hfk := HL.out.loose k
            have HL2 := Lib.hid (HL.out.set hkl hrwr hxr)
            have HK2 : Hid (Keep w.heap.size w (wr.setCell ⟨g, k, none⟩ (.slice ar L cr))) := HKE.out.set (p := ⟨g, k, none⟩) HL.out.other _
            have hP2 : OwnI w.heap.size (wr.setCell ⟨g, k, none⟩ (.slice ar L cr)) (.slice pa P.length pcap) P := HP.out.set_lst HL.out k _
            have HP2 := Lib.hid hP2
            have HRK : Hid (Rw w.heap.size (wr.setCell ⟨g, k, none⟩ (.slice ar L cr)) ak ck l[k]) := hrwk.keep ((Keep.refl _ wr).set (p := ⟨g, k, none⟩) HL.out.other _)
            rw [hxk] at hckk
            rw [hxr] at hckr
            go_upto_region 16 with (fail)
            go_cut [18] from 18 to 111 (fun ii wx => ii = .int .i64 (c : Int) ∧ Hid (Mid w wx g (swapped l P.length k c) (.slice pa P.length pcap) P))
            case first =>
              generalize wr.setCell ⟨g, k, none⟩ (.slice ar L cr) = w2 at *
              have hcl : c < l[k].length := by rw [hxk]; omega
              obtain ⟨b, off, rfl, hb⟩ := HRK.out.sl.some hcl
              have c1 := cell_up (hb c hcl)
              have hyb : l[k][c] < 256 := HRK.out.sl.byte _ (List.getElem_mem hcl)
              have ha2 := at2_get hkl hcl
              have hy0 : l[k][c] ≠ 0 := by rw [← ha2]; exact hk3
              have HSW : Hid (swapped l P.length k c = (l.set k l[P.length]).set P.length (scaleN l[k] (invN l[k][c]))) := by
                show _ = _
                unfold swapped; rw [getR hrl, getR hkl, ha2]
              have HXL := Lib.hid hxk
              have HXB := Lib.hid HRK.out.sl.byte
              generalize l[k] = x at *
              generalize x[c] = y at *
              have HY := Lib.hid hy0
              have i1 : (0 : Int) ≤ (c : Int) := by omega
              have i2 : (c : Int) < (L : Int) := by omega
              have i3 : (P.length : Int) < (i : Int) := by omega
              have i4 : (0 : Int) ≤ (P.length : Int) := by omega
              have hL6 : L ≤ 1000000 := by omega
              have hmk := make_row L hL6
              have hinv := invN_lt hyb
              clear hb ha2 hy0 hk3 hckk hckr hrwk hrwr hxk hfk HL HP HRL HKE RR HNX HX hxr hcl hP2
              refine growT_begin 13 (by kernel_rfl) ?_
              refine growT_take (by kernel_rfl) [0, 1, 2, 3, 5, 6, 7, 8, 9] 5 _ _ (by kernel_rfl) ?_
              simp only [opsAt, List.getElem?_toArray, List.getElem?_cons_succ, List.getElem?_cons_zero]
              repeat (first | go_big_quiet_step (fail) | quiet_step (fail))
              refine wpQuiet_nil ?_
              intro w3 hw3
              have hb3 := below_of_up hw3
              clear c1 i1 i2 i3 i4
              refine growT_all [4, 10] (by kernel_rfl) (by simp) hw3 (fun q hq K hK => ?_)
              simp only [List.mem_cons, List.not_mem_nil, or_false] at hq
              rcases hq with rfl | rfl
              all_goals simp only [stepOf, List.getElem?_toArray, List.getElem?_cons_succ, List.getElem?_cons_zero]
              · go_simp
                refine hK.out _ _ ((Below.refl _ _).alloc (Nat.le_refl _) _) ?_
                clear hK K hmk
                have hz := zeros_rw w.heap.size w3 L hL6
                have hb24 : Below w2.heap.size w2 (w3.alloc (.cells (rowArr L zV) 5)) := hb3.trans ((Below.refl _ _).alloc hb3.size _)
                generalize w3.alloc (.cells (rowArr L zV) 5) = w4 at *
                generalize w3.heap.size = zb at *
                intro w5 hw5
                have hb5 := below_of_up hw5
                have hb25 : Below w2.heap.size w2 w5 := hb24.trans (hb5.mono hb24.size)
                have HZ := Lib.hid (hz.below hb5)
                clear hz hb24
                refine growT_one 10 (by kernel_rfl) hw5 (fun K hK => ?_)
                simp only [stepOf, List.getElem?_toArray, List.getElem?_cons_succ, List.getElem?_cons_zero]
                go_simp
                go_at_call 26
                refine (refInv_any _ hyb HY.out _).mono ?_
                rintro e w5' ⟨rfl, rfl⟩
                refine hK.out _ _ (Below.refl _ _) ?_
                clear hK K hb5 hw5
                intro w6 hw6
                have hb6 := below_of_up hw6
                have hb26 : Below w2.heap.size w2 w6 := hb25.trans (hb6.mono hb25.size)
                refine growT_one 11 (by kernel_rfl) hw6 (fun K hK => ?_)
                simp only [stepOf, List.getElem?_toArray, List.getElem?_cons_succ, List.getElem?_cons_zero]
                go_simp
                go_at_call 25
                have HPL : Hid (Calls Try.prog 25 #[.slice (some ⟨zb, 0, none⟩) L L, .slice (some ⟨b, off, none⟩) L ck, .int .u8 ((invN y : Nat) : Int)] w6 fun e w' => e = .returned (.slice (some ⟨w6.heap.size, 0, none⟩) L L) ∧ Hid (Rw w.heap.size w' (some ⟨w6.heap.size, 0, none⟩) L (scaleN x (invN y))) ∧ Below w6.heap.size w6 w' ∧ Below w2.heap.size w2 w') := by
                  have := plus_at w.heap.size (some ⟨zb, 0, none⟩) (some ⟨b, off, none⟩) L ck (List.replicate x.length 0) x (invN y) w6 (by rw [HXL.out]; exact hL6) hinv (by simp) (by rw [HXL.out]; exact HZ.out.sl.below hb6) (HRK.out.sl.below hb26) hb26
                  rw [plus_zeros, List.length_replicate, HXL.out] at this
                  exact this
                refine HPL.out.mono ?_
                rintro e w7 ⟨rfl, HN7, hb67, hb27⟩
                refine hK.out _ _ hb67 ?_
                clear hK K HPL
                generalize w6.heap.size = g2 at *
                refine growT_take (by kernel_rfl) [12] 1 _ _ (by kernel_rfl) ?_
                simp only [opsAt, List.getElem?_toArray, List.getElem?_cons_succ, List.getElem?_cons_zero]
                repeat (first | go_big_quiet_step (fail) | quiet_step (fail))
                refine wpQuiet_nil ?_
                intro w8 hw8
                have hb8 := below_of_up hw8
                have hb28 : Below w2.heap.size w2 w8 := hb27.trans (hb8.mono hb27.size)
                have HL8 := Lib.hid (HL2.out.below hb28)
                have HP8 := Lib.hid (HP2.out.below hb28)
                have HR8 := Lib.hid (HN7.out.below hb8)
                have hrl2 : P.length < (l.set k l[P.length]).length := by rw [List.length_set]; exact hrl
                obtain ⟨a9, c9, hc9, _⟩ := HL8.out.cell hrl2
                have hf9 := HL8.out.loose P.length
                have HM8 : Hid (Mid w (w8.setCell ⟨g, P.length, none⟩ (.slice (some ⟨g2, 0, none⟩) L L)) g (swapped l P.length k c) (.slice pa P.length pcap) P) := by
                  refine ⟨?_, HP8.out.set_lst HL8.out _ _, ((HK2.out.trans (Keep.of_below hb28))).set (p := ⟨g, P.length, none⟩) HL8.out.other _⟩
                  rw [HSW.out]
                  exact HL8.out.set hrl2 HR8.out (by rw [scaleN_len]; exact HXL.out)
                clear hb28 hb8 hw8 hb27 hb67 hb26 hb6 hw6 hb25 hb3 hw3 HZ HN7
                refine growT_last (by kernel_rfl) (by kernel_rfl) (fun K hK => ?_)
                simp only [stepOf, List.getElem?_toArray, List.getElem?_cons_succ, List.getElem?_cons_zero]
                go_simp
                refine hK.out _ _ ?_
                clear hK K
                go_wp2_with fail
                go_meet
                exact ⟨rfl, HM8⟩
              · go_simp
                go_at_call 26
                refine (refInv_any _ hyb HY.out _).mono ?_
                rintro e w3' ⟨rfl, rfl⟩
                refine hK.out _ _ (Below.refl _ _) ?_
                clear hK K
                intro w4 hw4
                have hb4 := below_of_up hw4
                have hb24 : Below w2.heap.size w2 w4 := hb3.trans (hb4.mono hb3.size)
                refine growT_one 4 (by kernel_rfl) hw4 (fun K hK => ?_)
                simp only [stepOf, List.getElem?_toArray, List.getElem?_cons_succ, List.getElem?_cons_zero]
                go_simp
                refine hK.out _ _ ((Below.refl _ _).alloc (Nat.le_refl _) _) ?_
                clear hK K hmk
                have hz := zeros_rw w.heap.size w4 L hL6
                have hb25 : Below w2.heap.size w2 (w4.alloc (.cells (rowArr L zV) 5)) := hb24.trans ((Below.refl _ _).alloc hb24.size _)
                generalize w4.alloc (.cells (rowArr L zV) 5) = w5 at *
                generalize w4.heap.size = zb at *
                have HZ := Lib.hid hz
                clear hz hb24 hb4 hw4
                intro w6 hw6
                have hb6 := below_of_up hw6
                have hb26 : Below w2.heap.size w2 w6 := hb25.trans (hb6.mono hb25.size)
                refine growT_one 11 (by kernel_rfl) hw6 (fun K hK => ?_)
                simp only [stepOf, List.getElem?_toArray, List.getElem?_cons_succ, List.getElem?_cons_zero]
                go_simp
                go_at_call 25
                have HPL : Hid (Calls Try.prog 25 #[.slice (some ⟨zb, 0, none⟩) L L, .slice (some ⟨b, off, none⟩) L ck, .int .u8 ((invN y : Nat) : Int)] w6 fun e w' => e = .returned (.slice (some ⟨w6.heap.size, 0, none⟩) L L) ∧ Hid (Rw w.heap.size w' (some ⟨w6.heap.size, 0, none⟩) L (scaleN x (invN y))) ∧ Below w6.heap.size w6 w' ∧ Below w2.heap.size w2 w') := by
                  have := plus_at w.heap.size (some ⟨zb, 0, none⟩) (some ⟨b, off, none⟩) L ck (List.replicate x.length 0) x (invN y) w6 (by rw [HXL.out]; exact hL6) hinv (by simp) (by rw [HXL.out]; exact HZ.out.sl.below hb6) (HRK.out.sl.below hb26) hb26
                  rw [plus_zeros, List.length_replicate, HXL.out] at this
                  exact this
                refine HPL.out.mono ?_
                rintro e w7 ⟨rfl, HN7, hb67, hb27⟩
                refine hK.out _ _ hb67 ?_
                clear hK K HPL
                generalize w6.heap.size = g2 at *
                refine growT_take (by kernel_rfl) [12] 1 _ _ (by kernel_rfl) ?_
                simp only [opsAt, List.getElem?_toArray, List.getElem?_cons_succ, List.getElem?_cons_zero]
                repeat (first | go_big_quiet_step (fail) | quiet_step (fail))
                refine wpQuiet_nil ?_
                intro w8 hw8
                have hb8 := below_of_up hw8
                have hb28 : Below w2.heap.size w2 w8 := hb27.trans (hb8.mono hb27.size)
                have HL8 := Lib.hid (HL2.out.below hb28)
                have HP8 := Lib.hid (HP2.out.below hb28)
                have HR8 := Lib.hid (HN7.out.below hb8)
                have hrl2 : P.length < (l.set k l[P.length]).length := by rw [List.length_set]; exact hrl
                obtain ⟨a9, c9, hc9, _⟩ := HL8.out.cell hrl2
                have hf9 := HL8.out.loose P.length
                have HM8 : Hid (Mid w (w8.setCell ⟨g, P.length, none⟩ (.slice (some ⟨g2, 0, none⟩) L L)) g (swapped l P.length k c) (.slice pa P.length pcap) P) := by
                  refine ⟨?_, HP8.out.set_lst HL8.out _ _, ((HK2.out.trans (Keep.of_below hb28))).set (p := ⟨g, P.length, none⟩) HL8.out.other _⟩
                  rw [HSW.out]
                  exact HL8.out.set hrl2 HR8.out (by rw [scaleN_len]; exact HXL.out)
                clear hb28 hb8 hw8 hb27 hb67 hb26 hb6 hw6 hb25 hb3 hw3 HZ HN7
                refine growT_last (by kernel_rfl) (by kernel_rfl) (fun K hK => ?_)
                simp only [stepOf, List.getElem?_toArray, List.getElem?_cons_succ, List.getElem?_cons_zero]
                go_simp
                refine hK.out _ _ ?_
                clear hK K
                go_wp2_with fail
                go_meet
                exact ⟨rfl, HM8⟩
            case rest =>
              obtain ⟨rfl, HMD⟩ := hcut
              have RS := Lib.hid (RR.out.swapped (c := c) (show P.length < i by omega) hk2)
              have HPR : Hid (P.length < i) := by show _ < _; omega
              clear HL HP HRL HKE RR HNX HL2 HK2 HP2 HRK hP2 hckk hckr hrwk hrwr hxk hfk hxr hkl hrl hk3 hk1
              generalize swapped l P.length k c = S at *
              go_wp2_with fail
              go_loopw [71] (fun jj wx => ∃ j : Nat, j ≤ i ∧ jj = .int .i64 j ∧ Hid (Mid w wx g (elimTo S P.length c j) (.slice pa P.length pcap) P)) (fun jj _ => i - (intOf jj).toNat)
              case atStart => exact ⟨0, by omega, rfl, HMD⟩
              case round =>
                obtain ⟨j, hj, rfl, HMJ⟩ := hrel
                by_cases hji : j < i
                · by_cases hjr : j = P.length
                  · have HX2 := Lib.hid (elim_skip (l := S) (c := c) (.inl hjr))
                    have hne : ((j : Int) != (P.length : Int)) = false := by simp; omega
                    clear hjr
                    go_wp2_with fail
                    go_roundw
                    case rel => exact ⟨j + 1, by omega, by go_num, by rw [HX2.out]; exact HMJ⟩
                    case measure => simp [intOf]; omega
                  · have hne : ((j : Int) != (P.length : Int)) = true := by simp; omega
                    have RE := RS.out.elim (c := c) HPR.out j (by omega)
                    have hEs : elimTo S P.length c (j + 1) = if j ≠ P.length ∧ at2 (elimTo S P.length c j) j c ≠ 0 then (elimTo S P.length c j).set j (plusN ((elimTo S P.length c j).getD j []) ((elimTo S P.length c j).getD P.length []) (at2 (elimTo S P.length c j) j c)) else elimTo S P.length c j := rfl
                    have HLJ := HMJ.out.lst
                    generalize elimTo S P.length c j = E at *
                    have hjl : j < E.length := by rw [RE.rows]; exact hji
                    have hrl : P.length < E.length := by rw [RE.rows]; exact HPR.out
                    obtain ⟨aj, cj, hcj, hrj⟩ := HLJ.cell hjl
                    obtain ⟨ar, cr, hcr, hrr⟩ := HLJ.cell hrl
                    have hxj : E[j].length = L := RE.len _ (List.getElem_mem hjl)
                    have hxr : E[P.length].length = L := RE.len _ (List.getElem_mem hrl)
                    have hcl : c < E[j].length := by omega
                    obtain ⟨b, off, rfl, hb⟩ := hrj.sl.some hcl
                    have hcb := hb c hcl
                    have hyb : E[j][c] < 256 := hrj.sl.byte _ (List.getElem_mem hcl)
                    have ha2 := at2_get hjl hcl
                    rw [ha2, getR hjl, getR hrl] at hEs
                    rw [hxj] at hcj
                    rw [hxr] at hcr
                    have i1 : (0 : Int) ≤ (c : Int) := by omega
                    have i2 : (c : Int) < (L : Int) := by omega
                    have hfj := HLJ.loose j
                    by_cases h0 : E[j][c] = 0
                    · have HX2 : Hid (elimTo S P.length c (j + 1) = E) := by
                        show _ = _
                        rw [hEs, if_neg (fun e => e.2 h0)]
                      rw [h0] at hcb
                      have hn0 : (((0 : Nat) : Int) != 0) = false := rfl
                      clear hEs ha2 hyb h0 hb hrj hrr hcr hxr hxj hcl hjr HLJ
                      go_wp2_with fail
                      go_roundw
                      case rel => exact ⟨j + 1, by omega, by go_num, by rw [HX2.out]; exact HMJ⟩
                      case measure => simp [intOf]; omega
                    · have HX2 : Hid (elimTo S P.length c (j + 1) = E.set j (plusN E[j] E[P.length] E[j][c])) := by
                        show _ = _
                        rw [hEs, if_pos ⟨hjr, h0⟩]
                      have HRJ := Lib.hid hrj
                      have HRR := Lib.hid hrr
                      have HXJ := Lib.hid hxj
                      have HXR := Lib.hid hxr
                      generalize E[j] = x at *
                      generalize E[P.length] = z at *
                      generalize x[c] = y at *
                      have hn0 : ((y : Int) != 0) = true := by simp; omega
                      have k1 := cell_up hcj
                      have k2 := cell_up hcr
                      have k3 := cell_up hcb
                      have i3 : (P.length : Int) < (i : Int) := by have := HPR.out; omega
                      have i4 : (0 : Int) ≤ (P.length : Int) := by omega
                      have i5 : (j : Int) < (i : Int) := by omega
                      have i6 : (0 : Int) ≤ (j : Int) := by omega
                      clear hEs ha2 h0 hb hrj hrr hxr hxj hcl hjr HLJ
                      go_wp2_with fail
                      refine growT_begin 19 (by kernel_rfl) ?_
                      refine growT_take (by kernel_rfl) [0, 1, 2, 3, 4, 5, 6, 7, 8, 9, 10, 11, 12, 13, 14, 15, 16] 3 _ _ (by kernel_rfl) ?_
                      simp only [opsAt, List.getElem?_toArray, List.getElem?_cons_succ, List.getElem?_cons_zero]
                      repeat (first | go_big_quiet_step (fail) | quiet_step (fail))
                      refine wpQuiet_nil ?_
                      intro w6 hw6
                      have hb6 := below_of_up hw6
                      clear k1 k2 k3
                      refine growT_one 17 (by kernel_rfl) hw6 (fun K hK => ?_)
                      simp only [stepOf, List.getElem?_toArray, List.getElem?_cons_succ, List.getElem?_cons_zero]
                      go_simp
                      go_at_call 25
                      have HPL : Hid (Calls Try.prog 25 #[.slice (some ⟨b, off, none⟩) L cj, .slice ar L cr, .int .u8 (y : Int)] w6 fun e w' => e = .returned (.slice (some ⟨w6.heap.size, 0, none⟩) L L) ∧ Hid (Rw w.heap.size w' (some ⟨w6.heap.size, 0, none⟩) L (plusN x z y)) ∧ Below w6.heap.size w6 w' ∧ Below wr.heap.size wr w') := by
                        have := plus_at w.heap.size (some ⟨b, off, none⟩) ar cj cr x z y w6 (by rw [HXR.out]; omega) hyb (by rw [HXJ.out, HXR.out]) (HRJ.out.sl.below hb6) (HRR.out.sl.below hb6) hb6
                        rw [HXJ.out, HXR.out] at this
                        exact this
                      refine HPL.out.mono ?_
                      rintro e w7 ⟨rfl, HN7, hb67, hb27⟩
                      refine hK.out _ _ hb67 ?_
                      clear hK K HPL
                      generalize w6.heap.size = g2 at *
                      refine growT_take (by kernel_rfl) [18] 1 _ _ (by kernel_rfl) ?_
                      simp only [opsAt, List.getElem?_toArray, List.getElem?_cons_succ, List.getElem?_cons_zero]
                      repeat (first | go_big_quiet_step (fail) | quiet_step (fail))
                      refine wpQuiet_nil ?_
                      intro w8 hw8
                      have hb8 := below_of_up hw8
                      have hb28 : Below wr.heap.size wr w8 := hb27.trans (hb8.mono hb27.size)
                      have HL8 := Lib.hid (HMJ.out.lst.below hb28)
                      have HP8 := Lib.hid (HMJ.out.pl.below hb28)
                      have HR8 := Lib.hid (HN7.out.below hb8)
                      obtain ⟨a9, c9, hc9, _⟩ := HL8.out.cell hjl
                      have hf9 := HL8.out.loose j
                      have HM8 : Hid (Mid w (w8.setCell ⟨g, j, none⟩ (.slice (some ⟨g2, 0, none⟩) L L)) g (elimTo S P.length c (j + 1)) (.slice pa P.length pcap) P) := by
                        refine ⟨?_, HP8.out.set_lst HL8.out _ _, ((HMJ.out.keep.trans (Keep.of_below hb28))).set (p := ⟨g, j, none⟩) HL8.out.other _⟩
                        rw [HX2.out]
                        exact HL8.out.set hjl HR8.out (by rw [plusN_len _ _ _ (by rw [HXJ.out, HXR.out]; exact Nat.le_refl _)]; exact HXJ.out)
                      clear hb28 hb8 hw8 hb27 hb67 hb6 hw6 HN7 hcj hcr hcb hfj
                      refine growT_last (by kernel_rfl) (by kernel_rfl) (fun K hK => ?_)
                      simp only [stepOf, List.getElem?_toArray, List.getElem?_cons_succ, List.getElem?_cons_zero]
                      go_simp
                      refine hK.out _ _ ?_
                      clear hK K
                      go_wp2_with fail
                      go_roundw
                      case rel => exact ⟨j + 1, by omega, by go_num, HM8⟩
                      case measure => simp [intOf]; omega
                · obtain rfl : j = i := by omega
                  have HOP := Lib.hid (HMJ.out.pl.below ((Below.refl _ wr).alloc (Nat.le_refl _) (.cells #[.int .i64 (c : Int)] 3)))
                  have hplen : P.length ≤ 100000 := by have := HPR.out; omega
                  go_wp2_with (at_builtin; refine wpList_push_int _ rfl _ _ rfl w.heap.size _ _ rfl HOP.out wr.heap.size rfl c (by simp) (by have := HMJ.out.keep.size; simp; omega) hplen ?_; intro v' w9 HO9 hg9)
                  have HL9 := Lib.hid ((HMJ.out.lst.below ((Below.refl _ wr).alloc (Nat.le_refl _) (.cells #[.int .i64 (c : Int)] 3))).grown HOP.out hg9)
                  have HK9 := Lib.hid (HOP.out.keep_push hg9 (HMJ.out.keep.alloc _))
                  clear hg9 HOP
                  go_roundw
                  case rel => exact ⟨c + 1, by omega, by go_num, ⟨by rw [HX.out]; exact HL9.out, by rw [HX.out]; exact HO9.out, HK9.out⟩⟩
                  case measure => simp [intOf]; omega
    · obtain rfl : c = n := by omega
      have HLL := Lib.hid (red_to HR.out c).rect.rows
      go_wp2_with fail
      go_ret2
      exact ⟨g, gc, _, by rw [HR.out.rows]; rfl, HE.out.lst.rs (by rw [HLL.out]; exact hgl) hgc, HE.out.pl, HE.out.keep.below (Nat.le_refl _)⟩
end Go.Proofs.Ytacncbojplmcjaa
end

section
namespace Go.Proofs.Ytacncbojplmcjaa
open Go.ChangeShapes Go.WideShapes Go.ChangeAt Go.RowKit Go.Joins
set_option linter.unusedVariables false

def EchPost0 (w : World) (e : Ending) (w' : World) : Prop :=
  ∃ v, e = .returned (.tuple #[v, .slice none 0 0]) ∧ Below w.heap.size w w'
set_option maxRecDepth 100000 in
set_option maxHeartbeats 1000000 in
theorem echelon_none (w : World) : Calls Try.prog 17 #[.slice none 0 0, .int .i64 0] w (EchPost0 w) := by
  obtain ⟨i0, hi, hz0, hz1, hz2⟩ := info_parts infoR
  go_enter Try.func17, Try.ntmps17
  go_wp2_with (at_builtin; refine wpList_append_own_none rfl (.tmp 14) (.tmp 15) 36 rfl w.heap.size 38 i0 1 Try.underlying36 hi _ 0 [] rfl (World.ownsRow_made w #[] 0 (Nat.le_refl _) (Nat.zero_le _) rfl) rfl ?_)
  refine wp_loop_rounds 1 ?_
  rw [rounds_succ]
  go_wp2_with fail
  go_ret2
  exact ⟨_, rfl, (Below.refl _ _).alloc (Nat.le_refl _) _⟩

/-- The document's rank. -/
def rankN (ls : Rws) : Nat := (echTo (pads ls (longN ls)) (longN ls)).2.length

set_option maxHeartbeats 1000000 in
theorem refRank_any (B : Nat) (a : Option Addr) (cap : Nat) (ls : Rws) (w : World) (hB : B ≤ w.heap.size) (hs : Rs B w a cap ls) (hl : ls.length ≤ 1000) (hm : ∀ x ∈ ls, x.length ≤ 1000) :
    Calls Try.prog 10 #[.slice a ls.length cap] w fun e w' => e = .returned (.int .i64 ((rankN ls : Nat) : Int)) ∧ Below w.heap.size w w' := by
  have HR := Lib.hid (rows_any B a cap ls w hB hs hl hm)
  have HBY := Lib.hid hs.byte
  have HM := Lib.hid hm
  by_cases h0 : ls = []
  · have H0 := Lib.hid h0
    have HK : Hid (rankN ls = 0) := by show _ = _; rw [h0]; rfl
    have HN : Hid (longN ls = 0) := by show _ = _; rw [h0]; rfl
    clear hs hm h0
    go_enter Try.func10, Try.ntmps10
    go_wp2_with fail
    refine HR.out.mono ?_
    rintro e w1 ⟨v, rfl, ho, hb, hv⟩
    have hv' := hv H0.out
    subst hv'
    rw [HN.out]
    clear ho hv
    go_wp2_with fail
    refine (echelon_none _).mono ?_
    rintro e w2 ⟨v2, rfl, hb2⟩
    go_wp2_with fail
    go_ret
    exact ⟨by rw [HK.out]; rfl, hb.trans (hb2.mono hb.size)⟩
  · have hpos : 0 < ls.length := List.length_pos_iff.2 h0
    have hlong := longN_le hm
    have HK : Hid (rankN ls = (echTo (pads ls (longN ls)) (longN ls)).2.length) := rfl
    have HE := Lib.hid (fun (B : Nat) (a : Option Addr) (cap : Nat) (w : World) (hB : B ≤ w.heap.size) (hs : Rs B w a cap (pads ls (longN ls))) => echelon_some B a cap (pads ls (longN ls)) ls.length (longN ls) (longN ls) w hB hs (pads_rect HBY.out) (Nat.le_refl _) hpos hl hlong)
    clear hs hm h0
    go_enter Try.func10, Try.ntmps10
    go_wp2_with fail
    refine HR.out.mono ?_
    rintro e w1 ⟨v, rfl, ho, hb, _⟩
    obtain ⟨a1, c1, rfl, hrs⟩ := ho.rs
    have HS := Lib.hid hrs
    have HC := Lib.hid (HE.out _ _ _ w1 (Nat.le_refl _) hrs)
    have HPL := Lib.hid (pads_len ls (longN ls))
    clear hrs ho HE HR
    generalize longN ls = N at *
    generalize pads ls N = L at *
    go_wp2_with fail
    refine HC.out.mono ?_
    rintro e w2 ⟨g, c2, vp, rfl, _, hp, hb2⟩
    obtain ⟨pa, pc, rfl, _⟩ := hp.form
    clear hp
    go_wp2_with fail
    go_ret
    exact ⟨by rw [HK.out]; rfl, hb.trans (hb2.mono hb.size)⟩
end Go.Proofs.Ytacncbojplmcjaa
end
