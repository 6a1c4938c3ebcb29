/-
  A heap of equations: Pop; container/heap's Fix and Remove.
-/
import Derived.Test.YticppgopblgkbaaQuE
namespace Go.Proofs.Yticppgopblgkbaa
open Go.ChangeShapes Go.WideShapes Go.ChangeAt Go.RowKit Go.Joins
set_option linter.unusedVariables false

/-- The last equation is taken out of the row. -/
theorem Qm.pop {w : World} {q : QP} {m : Nat} {es : List Nat} {at_ op : Nat → Nat} (h : Qm w q m es at_ op) {n : Nat} (hn : es.length = n + 1) :
    Qm (w.setCell ⟨q.qb, 0, none⟩ (.slice q.ea n q.cap)) q m (es.take n) at_ op := by
  have hl : (es.take n).length = n := by rw [List.length_take]; omega
  obtain ⟨E1, E2, E3, E4, E5⟩ := h.here.resolve_left (fun e => by rw [e.1] at hn; simp at hn)
  have hs := h.short
  have hc := h.len
  refine ⟨?_, .inr ⟨E1, ?_, E3, E4, E5⟩, by omega, h.most, by omega, h.arow.other (C := q.qb) (Ne.symm h.d1), h.orow.other (C := q.qb) (Ne.symm h.d2), h.d1, h.d2, h.d3, ?_, ?_, ?_, h.few, h.opb⟩
  · rw [hl]
    have := block_setCell (i := 0) h.head (.slice q.ea n q.cap)
    rw [this]
    rfl
  · rw [hl]
    refine (E2.other (C := q.qb) E3).mono (by omega) fun j hj => ?_
    rw [lV_get (by omega), lV_get (by omega), List.getElem_take]
  · exact fun e he => h.low e (List.mem_of_mem_take he)
  · exact h.nd.sublist (List.take_sublist _ _)
  · intro i hi
    rw [List.getElem_take]
    exact h.pos i (by omega)

set_option maxHeartbeats 1000000 in
theorem pop_any (q : QP) (m : Nat) (es : List Nat) (at_ op : Nat → Nat) (w : World) (h : Qm w q m es at_ op) (n : Nat) (hn : es.length = n + 1) :
    Calls Try.prog 64 #[.pointer (some ⟨q.qb, 0, none⟩)] w fun e w' => (∃ v, e = .returned v) ∧ Qm w' q m (es.take n) at_ op ∧ Fr q.X w w' := by
  obtain ⟨c0, _, _⟩ := h.cells
  have HP := Lib.hid (h.pop hn)
  obtain ⟨e1, x1⟩ := h.some (i := n) (by omega)
  have z0 : w.frozen? ⟨q.qb, 0, none⟩ = false := unfrozen_of_block h.head 0
  have hs := h.short
  have hm := h.few
  have hc := h.len
  have hcm := h.most
  rw [e1] at c0 HP
  rw [hn] at c0
  generalize es[n] = x at *
  have d1 : ((n + 1 : Nat) : Int) - 1 = (n : Int) := by omega
  have d2 : (n : Int) < ((n + 1 : Nat) : Int) := by omega
  have d3 : n ≤ q.cap := by omega
  have hnb : n ≤ 1000 := by omega
  have HF : Hid (Fr q.X w (w.setCell ⟨q.qb, 0, none⟩ (.slice (some ⟨q.eb, 0, none⟩) n q.cap))) := (Fr.refl _ _).set (p := ⟨q.qb, 0, none⟩) (fun _ => .inl rfl) _
  clear h hs hm e1 hn
  go_enter Try.func64, Try.ntmps64
  go_wp2_with fail
  go_ret
  exact ⟨⟨_, rfl⟩, HP.out, HF.out⟩

set_option maxHeartbeats 1000000 in
theorem fix_any (q : QP) (m : Nat) (es : List Nat) (at_ op : Nat → Nat) (w : World) (h : Qm w q m es at_ op) (i : Nat) (hi : i < es.length) :
    Calls Try.prog 21 #[.iface 43 (.pointer (some ⟨q.qb, 0, none⟩)), .int .i64 (i : Int)] w fun e w' => e = .returned (.tuple #[]) ∧ ∃ es', Turned q m op es es' w w' := by
  have HQ := Lib.hid (qcalls q m op)
  have HL := Lib.hid (len_any q m es at_ op w h)
  have HD := Lib.hid (down_any q m es at_ op w h i es.length hi (Nat.le_refl _))
  have m1 := meth_len q.qb
  clear h
  go_enter Try.func21, Try.ntmps21
  go_wp2_with fail
  (with_reducible refine HL.out.mono ?_)
  rintro e w' ⟨rfl, rfl⟩
  go_wp2_with fail
  (with_reducible refine HD.out.mono ?_)
  rintro e w1 ⟨⟨b, rfl⟩, es1, t1, _⟩
  have HT1 := Lib.hid t1
  obtain ⟨⟨a1, Q1⟩, p1, _⟩ := t1
  have HU := Lib.hid (up_any q m es1 a1 op w1 Q1 i (by rw [p1.length_eq]; exact hi))
  clear Q1 p1 HD HL
  cases b
  · go_wp2_with fail
    (with_reducible refine HU.out.mono ?_)
    rintro e w2 ⟨rfl, es2, t2, _⟩
    have HT2 := Lib.hid (HT1.out.trans t2)
    clear t2 HU
    go_wp2_with fail
    go_end0
    exact ⟨rfl, es2, HT2.out⟩
  · go_wp2_with fail
    go_end0
    exact ⟨rfl, es1, HT1.out⟩

/-- An equation e is taken out of a queue. -/
def Out (q : QP) (m : Nat) (op : Nat → Nat) (es : List Nat) (e : Nat) (w w' : World) : Prop := ∃ es' at_, Qm w' q m es' at_ op ∧ (es' ++ [e]).Perm es ∧ Fr q.X w w'
theorem out_of {q : QP} {m : Nat} {op at_ : Nat → Nat} {es es1 : List Nat} {e n : Nat} {w w1 w2 : World} (h : Turned q m op es es1 w w1) (hn : es.length = n + 1) (he : es1[n]? = some e) (k : Qm w2 q m (es1.take n) at_ op) (kf : Fr q.X w1 w2) : Out q m op es e w w2 := by
  refine ⟨es1.take n, at_, k, ?_, h.2.2.trans kf⟩
  have hl : es1.length = n + 1 := by rw [h.2.1.length_eq, hn]
  have : es1.take n ++ [e] = es1 := by
    obtain ⟨hlt, e1⟩ := List.getElem?_eq_some_iff.1 he
    have := List.take_append_drop n es1
    rw [List.drop_eq_getElem_cons hlt, e1, List.drop_eq_nil_of_le (by omega)] at this
    exact this
  rw [this]
  exact h.2.1

set_option maxRecDepth 100000 in
set_option maxHeartbeats 4000000 in
theorem remove_any (q : QP) (m : Nat) (es : List Nat) (at_ op : Nat → Nat) (w : World) (h : Qm w q m es at_ op) (i : Nat) (hi : i < es.length) :
    Calls Try.prog 20 #[.iface 43 (.pointer (some ⟨q.qb, 0, none⟩)), .int .i64 (i : Int)] w fun e w' => (∃ v, e = .returned v) ∧ Out q m op es es[i] w w' := by
  obtain ⟨n, hn⟩ : ∃ n, es.length = n + 1 := ⟨es.length - 1, by omega⟩
  have HL := Lib.hid (len_any q m es at_ op w h)
  have HP := Lib.hid (fun es at_ w h hn => pop_any q m es at_ op w h n hn)
  have m1 := meth_len q.qb
  have m2 := meth_swap q.qb
  have m3 := meth_pop q.qb
  rw [hn] at HL
  have hm := h.few
  have hs := h.short
  have d1 : ((n + 1 : Nat) : Int) - 1 = (n : Int) := by omega
  have hnb : n ≤ 1000 := by omega
  have HT0 : Hid (Turned q m op es es w w) := Turned.refl h
  by_cases hin : i = n
  · have hie : es[n]? = some es[i] := by subst hin; simp
    have HO := Lib.hid (fun (w2 : World) (k : Qm w2 q m (es.take n) at_ op) kf => out_of HT0.out hn hie k kf)
    have HP1 := Lib.hid (HP.out es at_ w h hn)
    subst hin
    generalize es[i] = x at *
    clear h hie hs HP
    go_enter Try.func20, Try.ntmps20
    go_wp2_with fail
    (with_reducible refine HL.out.mono ?_)
    rintro e w' ⟨rfl, rfl⟩
    go_wp2_with fail
    (with_reducible refine HP1.out.mono ?_)
    rintro e w2 ⟨⟨v, rfl⟩, k1, k2⟩
    have HE := Lib.hid (HO.out w2 k1 k2)
    clear k1 k2
    go_wp2_with fail
    go_ret
    exact ⟨⟨_, rfl⟩, HE.out⟩
  · have HS := Lib.hid (swap_any q m es at_ op w h i n hi (by omega) hin)
    have HG : Hid (∀ es1 : List Nat, (∀ k : Nat, n ≤ k → es1[k]? = (swapL es i n)[k]?) → es1[n]? = some es[i]) := fun es1 h1 => by
      rw [h1 n (Nat.le_refl _)]
      unfold swapL
      rw [List.getElem?_set_self (by simp; omega)]
      simp [List.getD, hi]
    have HO : Hid (∀ (es1 : List Nat) (at1 : Nat → Nat) (w1 w2 : World), Turned q m op es es1 w w1 → es1[n]? = some es[i] → Qm w2 q m (es1.take n) at1 op → Fr q.X w1 w2 → Out q m op es es[i] w w2) := fun es1 at1 w1 w2 t he k kf => out_of t hn he k kf
    have HD := Lib.hid (fun es at_ w h hn => down_any q m es at_ op w h i n (by omega) hn)
    have HU := Lib.hid (fun es at_ w h hi => up_any q m es at_ op w h i hi)
    have hlz : (swapL es i n).length = n + 1 := by rw [swapL_len, hn]
    have hne : ((n : Int) != (i : Int)) = true := by simp; omega
    have hi2 : i < n := by omega
    generalize es[i] = x at *
    clear h
    go_enter Try.func20, Try.ntmps20
    go_wp2_with fail
    (with_reducible refine HL.out.mono ?_)
    rintro e w' ⟨rfl, rfl⟩
    go_wp2_with fail
    (with_reducible refine HS.out.mono ?_)
    rintro e w1 ⟨rfl, t1⟩
    have HT1 := Lib.hid (HT0.out.trans t1)
    obtain ⟨⟨a1, Q1⟩, _, _⟩ := t1
    have HD1 := Lib.hid (HD.out _ a1 w1 Q1 (by omega))
    clear Q1
    go_wp2_with fail
    (with_reducible refine HD1.out.mono ?_)
    rintro e w2 ⟨⟨b, rfl⟩, es2, t2, f2⟩
    have HT2 := Lib.hid (HT1.out.trans t2)
    have HF2 := Lib.hid (HG.out es2 f2)
    have HF2' := Lib.hid f2
    obtain ⟨⟨a2, Q2⟩, p2, _⟩ := t2
    have hl2 : es2.length = n + 1 := by rw [p2.length_eq, hlz]
    clear HT1 HD1 HD f2 p2
    cases b
    · have HU2 := Lib.hid (HU.out es2 a2 w2 Q2 (by omega))
      clear Q2
      go_wp2_with fail
      (with_reducible refine HU2.out.mono ?_)
      rintro e w3 ⟨rfl, es3, t3, f3⟩
      have HT3 := Lib.hid (HT2.out.trans t3)
      have HF3 := Lib.hid (HG.out es3 fun k hk => (f3 k (by omega)).trans (HF2'.out k hk))
      obtain ⟨⟨a3, Q3⟩, p3, _⟩ := t3
      have hl3 : es3.length = n + 1 := by rw [p3.length_eq, hl2]
      have HP3 := Lib.hid (HP.out es3 a3 w3 Q3 hl3)
      clear HU2 Q3 f3 p3
      go_wp2_with fail
      (with_reducible refine HP3.out.mono ?_)
      rintro e w4 ⟨⟨v, rfl⟩, k1, k2⟩
      have HE := Lib.hid (HO.out es3 a3 w3 w4 HT3.out HF3.out k1 k2)
      clear k1 k2
      go_wp2_with fail
      go_ret
      exact ⟨⟨_, rfl⟩, HE.out⟩
    · have HP3 := Lib.hid (HP.out es2 a2 w2 Q2 hl2)
      clear Q2
      go_wp2_with fail
      (with_reducible refine HP3.out.mono ?_)
      rintro e w4 ⟨⟨v, rfl⟩, k1, k2⟩
      have HE := Lib.hid (HO.out es2 a2 w2 w4 HT2.out HF2.out k1 k2)
      clear k1 k2
      go_wp2_with fail
      go_ret
      exact ⟨⟨_, rfl⟩, HE.out⟩
end Go.Proofs.Yticppgopblgkbaa
