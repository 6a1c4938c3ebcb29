/-
  A heap of equations: a new one.
-/
import Derived.Test.YticppgopblgkbaaQuI
import Derived.Test.YticppgopblgkbaaPeelB
namespace Go.Proofs.Yticppgopblgkbaa
open Go.ChangeShapes Go.WideShapes Go.ChangeAt Go.RowKit Go.Joins
set_option linter.unusedVariables false

theorem nodup_lt : ∀ (n : Nat) {l : List Nat}, l.Nodup → (∀ x ∈ l, x < n) → l.length ≤ n
  | 0, l, _, h => by
    cases l with
    | nil => simp
    | cons x l => have := h x (by simp); omega
  | n + 1, l, hd, h => by
    by_cases hn : n ∈ l
    · have := nodup_lt n (l := l.erase n) (hd.erase n) fun x hx => by
        have h1 := h x (List.mem_of_mem_erase hx)
        have h2 : x ≠ n := fun e => by subst e; exact (List.Nodup.not_mem_erase hd) hx
        omega
      rw [List.length_erase_of_mem hn] at this
      omega
    · have := nodup_lt n hd fun x hx => by
        have h1 := h x hx
        have h2 : x ≠ n := fun e => hn (e ▸ hx)
        omega
      omega

set_option maxRecDepth 100000 in
theorem make_ints (n : Nat) (hn : n ≤ 1000000) (w : World) : (Instr.makeSlice 27 (.int .i64 (n : Int)) (.int .i64 (n : Int))).run Try.prog w = .ok (.slice (some ⟨w.heap.size, 0, none⟩) n n) (w.alloc (.cells (rowArr n (nV fun _ => 0)) 3)) := by
  have h := run_make_row' (P := Try.prog) 27 3 (.int .i64 0) 8 Try.underlying27 infoI rfl .i64 .i64 n (by omega) (by omega) w
  rw [h]
  congr 3
  apply Array.ext
  · simp [madeCells, rowArr]
  · intro i h1 h2
    simp [madeCells, rowArr, nV, Nat.mod_one]

/-- How many open unknowns the first k equations have. -/
def opK (es : Eqz) (k e : Nat) : Nat := if e < k then (es.getD e []).length else 0
theorem opK_start (es : Eqz) : opK es 0 = fun _ => 0 := by funext e; simp [opK]
theorem opK_next {es : Eqz} {k : Nat} (h : k < es.length) : opK es (k + 1) = upd (opK es k) k es[k].length := by
  funext e
  unfold opK upd
  by_cases h1 : e = k
  · subst h1; simp [List.getD, h]
  · by_cases h2 : e < k
    · simp [h1, h2, show e < k + 1 by omega]
    · simp [h1, h2, show ¬ e < k + 1 by omega]

/-- What holds when the first k equations are put in. -/
structure NQ (w wr : World) (qb : Nat) (es : Eqz) (k : Nat) : Prop where
  have_ : ∃ (q : QP) (l : List Nat) (at_ : Nat → Nat), q.qb = qb ∧ Qm wr q es.length l at_ (opK es k) ∧ (∀ e, e ∈ l ↔ e < es.length ∧ 0 < opK es k e) ∧ (∀ b, q.X b → w.heap.size ≤ b)
  low : Below w.heap.size w wr
theorem opK_low {es : Eqz} {k e : Nat} (h : 0 < opK es k e) : e < k := by
  unfold opK at h
  split at h
  · assumption
  · omega

/-- A queue of no equation. -/
theorem q_new (w : World) (m ab ob : Nat) (hm : m ≤ 1000) (hab : (ab = w.heap.size ∧ ob = w.heap.size + 1) ∨ (ab = w.heap.size + 1 ∧ ob = w.heap.size)) :
    Qm (((w.alloc (.cells (rowArr m (nV fun _ => 0)) 3)).alloc (.cells (rowArr m (nV fun _ => 0)) 3)).alloc (.cells #[.slice none 0 0, .slice (some ⟨ab, 0, none⟩) m m, .slice (some ⟨ob, 0, none⟩) m m] 47)) ⟨w.heap.size + 1 + 1, none, w.heap.size + 1 + 1, 0, ab, ob⟩ m [] (fun _ => 0) (fun _ => 0) := by
  have r0 : ∀ o2 o3, Row (((w.alloc (.cells (rowArr m (nV fun _ => 0)) 3)).alloc o2).alloc o3) w.heap.size 3 m m (nV fun _ => 0) := fun o2 o3 => ((Row.new_whole w _ 3 _ _ _ rfl rfl).alloc o2).alloc o3
  have r1 : ∀ o1 o3, Row (((w.alloc o1).alloc (.cells (rowArr m (nV fun _ => 0)) 3)).alloc o3) (w.heap.size + 1) 3 m m (nV fun _ => 0) := fun o1 o3 => (Row.new_whole (w.alloc o1) _ 3 _ _ _ (by simp) rfl).alloc o3
  refine Qm.mk ?_ (.inl ⟨rfl, rfl, rfl⟩) (by simp) (by simp) (by simp) ?_ ?_ ?_ ?_ ?_ (by simp) List.nodup_nil (fun i h => by simp at h) hm (fun _ => by omega)
  · have := heap_alloc_last ((w.alloc (.cells (rowArr m (nV fun _ => 0)) 3)).alloc (.cells (rowArr m (nV fun _ => 0)) 3)) (.cells #[.slice none 0 0, .slice (some ⟨ab, 0, none⟩) m m, .slice (some ⟨ob, 0, none⟩) m m] 47)
    simpa using this
  · rcases hab with ⟨rfl, rfl⟩ | ⟨rfl, rfl⟩
    · exact r0 _ _
    · exact r1 _ _
  · rcases hab with ⟨rfl, rfl⟩ | ⟨rfl, rfl⟩
    · exact r1 _ _
    · exact r0 _ _
  · show w.heap.size + 1 + 1 ≠ ab; omega
  · show w.heap.size + 1 + 1 ≠ ob; omega
  · show ab ≠ ob; omega
theorem nq_start (w : World) (es : Eqz) (ab ob : Nat) (hm : es.length ≤ 1000) (hab : (ab = w.heap.size ∧ ob = w.heap.size + 1) ∨ (ab = w.heap.size + 1 ∧ ob = w.heap.size)) :
    NQ w ((((w.alloc (.cells (rowArr es.length (nV fun _ => 0)) 3)).alloc (.cells (rowArr es.length (nV fun _ => 0)) 3)).alloc (.cells #[.slice none 0 0, .slice (some ⟨ab, 0, none⟩) es.length es.length, .slice (some ⟨ob, 0, none⟩) es.length es.length] 47)).drew) (w.heap.size + 1 + 1) es 0 := by
  refine ⟨⟨⟨w.heap.size + 1 + 1, none, w.heap.size + 1 + 1, 0, ab, ob⟩, [], fun _ => 0, rfl, ?_, fun e => ?_, fun b hb => ?_⟩, ?_⟩
  · rw [opK_start]; exact (q_new w es.length ab ob hm hab).fr (X := fun _ => False) (fr_drew (Fr.refl _ _)) (fun _ _ h => h)
  · rw [opK_start]; simp
  · rcases hb with h | h | h | h
    · have : b = w.heap.size + 1 + 1 := h
      omega
    · have : b = ab := h
      omega
    · have : b = ob := h
      omega
    · have : b = w.heap.size + 1 + 1 := h
      omega
  · exact ((((Below.refl _ w).alloc (Nat.le_refl _) _).alloc (by simp) _).alloc (by simp; omega) _).drew

set_option maxRecDepth 1000000 in
set_option maxHeartbeats 4000000 in
theorem newQueue_any (a : Option Addr) (cap : Nat) (es : Eqz) (hlen : es.length ≤ 1000) (hfew : ∀ l ∈ es, l.length ≤ 1000000) (w : World) (hs : Er w a cap es) :
    Calls Try.prog 13 #[.slice a es.length cap] w fun e w' => ∃ q, e = .returned (.pointer (some ⟨q.qb, 0, none⟩)) ∧ Qi w' q es.length (opK es es.length) ∧ (∀ b, q.X b → w.heap.size ≤ b) ∧ Below w.heap.size w w' := by
  have HS := Lib.hid hs
  have hlm := hs.lt
  have hmk := make_ints es.length (by omega)
  clear hs
  go_enter Try.func13, Try.ntmps13
  go_wp2_with fail
  go_region
  · have HN0 := Lib.hid (nq_start w es w.heap.size (w.heap.size + 1) hlen (.inl ⟨rfl, rfl⟩))
    obtain ⟨w3, hw3⟩ : ∃ w3, w3 = ((((w.alloc (.cells (rowArr es.length (nV fun _ => 0)) 3)).alloc (.cells (rowArr es.length (nV fun _ => 0)) 3)).alloc (.cells #[.slice none 0 0, .slice (some ⟨w.heap.size, 0, none⟩) es.length es.length, .slice (some ⟨w.heap.size + 1, 0, none⟩) es.length es.length] 47)).drew) := ⟨_, rfl⟩
    rw [← hw3] at HN0 ⊢
    obtain ⟨qb, hqb⟩ : ∃ qb, qb = w.heap.size + 1 + 1 := ⟨_, rfl⟩
    rw [← hqb] at HN0 ⊢
    clear hw3 hqb hmk
    go_wp2_with fail
    go_loopw [16] (fun i wr => ∃ k : Nat, k ≤ es.length ∧ i = .int .i64 k ∧ Hid (NQ w wr qb es k)) (fun i _ => es.length - (intOf i).toNat)
    case atStart => exact ⟨0, by omega, rfl, HN0⟩
    case round =>
      obtain ⟨k, hk, rfl, HN⟩ := hrel
      clear HN0
      by_cases hlt : k < es.length
      · obtain ⟨b, off, rfl, hb, a', c', hc, hl⟩ := er_one (HS.out.below HN.out.low) hlt
        have hlk := hl.lt
        have hfk := hfew _ (List.getElem_mem hlt)
        have HX := Lib.hid (opK_next hlt)
        have HB := Lib.hid HN.out.low
        obtain ⟨⟨q, l, at_, rfl, hq, hmem, hX⟩, _⟩ := HN.out
        have HX0 := Lib.hid hX
        have ho0 : opK es k k = 0 := by simp [opK]
        have HQ1 := Lib.hid (hq.open hlt es[k].length hfk)
        have hkl : k ∉ l := fun h => by have := (hmem k).1 h; omega
        have hll : l.length < es.length := Nat.lt_of_le_of_lt (nodup_lt k hq.nd fun x hx => opK_low ((hmem x).1 hx).2) hlt
        obtain ⟨_, _, c2⟩ := hq.cells
        have y1 := hq.orow.cell k hlt
        have z1 := hq.orow.loose k
        unfold nV at y1
        have hkz : (k : Int) < (es.length : Int) := by omega
        have HM := Lib.hid hmem
        have HF1 : Hid (Fr q.X wr (wr.setCell ⟨q.ob, k, none⟩ (.int .i64 (es[k].length : Int)))) := (Fr.refl _ _).set (p := ⟨q.ob, k, none⟩) (fun _ => .inr (.inr (.inl rfl))) _
        clear hl HN hq hmem hX
        generalize es[k].length = L at *
        by_cases hL : L = 0
        · subst hL
          have HE : Hid (NQ w (wr.setCell ⟨q.ob, k, none⟩ (.int .i64 0)) q.qb es (k + 1)) := by
            refine ⟨⟨q, l, at_, rfl, ?_, fun e => ?_, HX0.out⟩, HB.out.trans (HF1.out.below HB.out.size fun b hb h => by have := HX0.out b h; omega)⟩
            · rw [HX.out]; exact HQ1.out
            · rw [HX.out, HM.out]
              by_cases hek : e = k
              · subst hek; rw [upd_same, ho0]
              · rw [upd_far _ hek]
          have dL : decide ((0 : Int) < ((0 : Nat) : Int)) = false := rfl
          clear HQ1 HM HF1 HX
          go_wp2_with fail
          go_roundw
          case rel => exact ⟨k + 1, by omega, by go_num, HE⟩
          case measure => simp [intOf]; omega
        · have dL : decide ((0 : Int) < (L : Int)) = true := by rw [decide_eq_true_iff]; omega
          have HP := Lib.hid (heapPush_any q es.length l at_ _ _ HQ1.out k hlt hkl hll)
          clear HQ1
          go_wp2_with fail
          (with_reducible refine HP.out.mono ?_)
          rintro r w1 ⟨rfl, g, cp, l', at2, k1, k2, k3, k4⟩
          have HE : Hid (NQ w w1 q.qb es (k + 1)) := by
            have hs1 : wr.heap.size = (wr.setCell ⟨q.ob, k, none⟩ (.int .i64 (L : Int))).heap.size := by simp
            refine ⟨⟨q.to g cp, l', at2, rfl, ?_, fun e => ?_, fun b hb => ?_⟩, ?_⟩
            · rw [HX.out]; exact k1
            · rw [HX.out, k2.mem_iff, List.mem_append, HM.out]
              by_cases hek : e = k
              · subst hek
                rw [upd_same]
                exact ⟨fun _ => ⟨hlt, by omega⟩, fun _ => .inr (by simp)⟩
              · rw [upd_far _ hek]
                simp [hek]
            · rcases hb with h | h | h | h
              · exact HX0.out b (.inl h)
              · exact HX0.out b (.inr (.inl h))
              · exact HX0.out b (.inr (.inr (.inl h)))
              · have h' : b = g := h
                rcases k4 with h4 | h4
                · exact HX0.out b (.inr (.inr (.inr (h'.trans h4))))
                · have := HB.out.size; omega
            · have f1 : Fr (fun b => q.X b ∨ wr.heap.size ≤ b) wr w1 := (HF1.out.mono (Y := fun b => q.X b ∨ wr.heap.size ≤ b) fun b _ h => .inl h).trans (k3.mono fun b _ h => h.imp id fun h => by rw [hs1]; exact h)
              refine HB.out.trans (f1.below HB.out.size fun b hb h => ?_)
              have := HB.out.size
              rcases h with h | h
              · have := HX0.out b h; omega
              · omega
          clear k1 k2 k3 k4 HP HM HF1 HX
          go_wp2_with fail
          go_roundw
          case rel => exact ⟨k + 1, by omega, by go_num, HE⟩
          case measure => simp [intOf]; omega
      · obtain rfl : k = es.length := by omega
        have HE : Hid (∃ q : QP, q.qb = qb ∧ Qi wr q es.length (opK es es.length) ∧ (∀ b, q.X b → w.heap.size ≤ b) ∧ Below w.heap.size w wr) := by
          obtain ⟨⟨q, l, at_, h1, h2, h3, h4⟩, h5⟩ := HN.out
          exact ⟨q, h1, ⟨l, at_, h2, h3⟩, h4, h5⟩
        clear HN
        go_wp2_with fail
        go_ret
        obtain ⟨q, rfl, h⟩ := HE.out
        exact ⟨q, rfl, h⟩
  · have HN0 := Lib.hid (nq_start w es (w.heap.size + 1) w.heap.size hlen (.inr ⟨rfl, rfl⟩))
    obtain ⟨w3, hw3⟩ : ∃ w3, w3 = ((((w.alloc (.cells (rowArr es.length (nV fun _ => 0)) 3)).alloc (.cells (rowArr es.length (nV fun _ => 0)) 3)).alloc (.cells #[.slice none 0 0, .slice (some ⟨w.heap.size + 1, 0, none⟩) es.length es.length, .slice (some ⟨w.heap.size, 0, none⟩) es.length es.length] 47)).drew) := ⟨_, rfl⟩
    rw [← hw3] at HN0 ⊢
    obtain ⟨qb, hqb⟩ : ∃ qb, qb = w.heap.size + 1 + 1 := ⟨_, rfl⟩
    rw [← hqb] at HN0 ⊢
    clear hw3 hqb hmk
    go_wp2_with fail
    go_loopw [16] (fun i wr => ∃ k : Nat, k ≤ es.length ∧ i = .int .i64 k ∧ Hid (NQ w wr qb es k)) (fun i _ => es.length - (intOf i).toNat)
    case atStart => exact ⟨0, by omega, rfl, HN0⟩
    case round =>
      obtain ⟨k, hk, rfl, HN⟩ := hrel
      clear HN0
      by_cases hlt : k < es.length
      · obtain ⟨b, off, rfl, hb, a', c', hc, hl⟩ := er_one (HS.out.below HN.out.low) hlt
        have hlk := hl.lt
        have hfk := hfew _ (List.getElem_mem hlt)
        have HX := Lib.hid (opK_next hlt)
        have HB := Lib.hid HN.out.low
        obtain ⟨⟨q, l, at_, rfl, hq, hmem, hX⟩, _⟩ := HN.out
        have HX0 := Lib.hid hX
        have ho0 : opK es k k = 0 := by simp [opK]
        have HQ1 := Lib.hid (hq.open hlt es[k].length hfk)
        have hkl : k ∉ l := fun h => by have := (hmem k).1 h; omega
        have hll : l.length < es.length := Nat.lt_of_le_of_lt (nodup_lt k hq.nd fun x hx => opK_low ((hmem x).1 hx).2) hlt
        obtain ⟨_, _, c2⟩ := hq.cells
        have y1 := hq.orow.cell k hlt
        have z1 := hq.orow.loose k
        unfold nV at y1
        have hkz : (k : Int) < (es.length : Int) := by omega
        have HM := Lib.hid hmem
        have HF1 : Hid (Fr q.X wr (wr.setCell ⟨q.ob, k, none⟩ (.int .i64 (es[k].length : Int)))) := (Fr.refl _ _).set (p := ⟨q.ob, k, none⟩) (fun _ => .inr (.inr (.inl rfl))) _
        clear hl HN hq hmem hX
        generalize es[k].length = L at *
        by_cases hL : L = 0
        · subst hL
          have HE : Hid (NQ w (wr.setCell ⟨q.ob, k, none⟩ (.int .i64 0)) q.qb es (k + 1)) := by
            refine ⟨⟨q, l, at_, rfl, ?_, fun e => ?_, HX0.out⟩, HB.out.trans (HF1.out.below HB.out.size fun b hb h => by have := HX0.out b h; omega)⟩
            · rw [HX.out]; exact HQ1.out
            · rw [HX.out, HM.out]
              by_cases hek : e = k
              · subst hek; rw [upd_same, ho0]
              · rw [upd_far _ hek]
          have dL : decide ((0 : Int) < ((0 : Nat) : Int)) = false := rfl
          clear HQ1 HM HF1 HX
          go_wp2_with fail
          go_roundw
          case rel => exact ⟨k + 1, by omega, by go_num, HE⟩
          case measure => simp [intOf]; omega
        · have dL : decide ((0 : Int) < (L : Int)) = true := by rw [decide_eq_true_iff]; omega
          have HP := Lib.hid (heapPush_any q es.length l at_ _ _ HQ1.out k hlt hkl hll)
          clear HQ1
          go_wp2_with fail
          (with_reducible refine HP.out.mono ?_)
          rintro r w1 ⟨rfl, g, cp, l', at2, k1, k2, k3, k4⟩
          have HE : Hid (NQ w w1 q.qb es (k + 1)) := by
            have hs1 : wr.heap.size = (wr.setCell ⟨q.ob, k, none⟩ (.int .i64 (L : Int))).heap.size := by simp
            refine ⟨⟨q.to g cp, l', at2, rfl, ?_, fun e => ?_, fun b hb => ?_⟩, ?_⟩
            · rw [HX.out]; exact k1
            · rw [HX.out, k2.mem_iff, List.mem_append, HM.out]
              by_cases hek : e = k
              · subst hek
                rw [upd_same]
                exact ⟨fun _ => ⟨hlt, by omega⟩, fun _ => .inr (by simp)⟩
              · rw [upd_far _ hek]
                simp [hek]
            · rcases hb with h | h | h | h
              · exact HX0.out b (.inl h)
              · exact HX0.out b (.inr (.inl h))
              · exact HX0.out b (.inr (.inr (.inl h)))
              · have h' : b = g := h
                rcases k4 with h4 | h4
                · exact HX0.out b (.inr (.inr (.inr (h'.trans h4))))
                · have := HB.out.size; omega
            · have f1 : Fr (fun b => q.X b ∨ wr.heap.size ≤ b) wr w1 := (HF1.out.mono (Y := fun b => q.X b ∨ wr.heap.size ≤ b) fun b _ h => .inl h).trans (k3.mono fun b _ h => h.imp id fun h => by rw [hs1]; exact h)
              refine HB.out.trans (f1.below HB.out.size fun b hb h => ?_)
              have := HB.out.size
              rcases h with h | h
              · have := HX0.out b h; omega
              · omega
          clear k1 k2 k3 k4 HP HM HF1 HX
          go_wp2_with fail
          go_roundw
          case rel => exact ⟨k + 1, by omega, by go_num, HE⟩
          case measure => simp [intOf]; omega
      · obtain rfl : k = es.length := by omega
        have HE : Hid (∃ q : QP, q.qb = qb ∧ Qi wr q es.length (opK es es.length) ∧ (∀ b, q.X b → w.heap.size ≤ b) ∧ Below w.heap.size w wr) := by
          obtain ⟨⟨q, l, at_, h1, h2, h3, h4⟩, h5⟩ := HN.out
          exact ⟨q, h1, ⟨l, at_, h2, h3⟩, h4, h5⟩
        clear HN
        go_wp2_with fail
        go_ret
        obtain ⟨q, rfl, h⟩ := HE.out
        exact ⟨q, rfl, h⟩
end Go.Proofs.Yticppgopblgkbaa
