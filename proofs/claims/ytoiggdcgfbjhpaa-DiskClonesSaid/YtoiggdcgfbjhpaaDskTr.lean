/-
  trim: what isn't safe of a disk's files is cut.
-/
import Derived.Test.YtoiggdcgfbjhpaaDskCl
namespace Go.Proofs.Ytoiggdcgfbjhpaa
open Go.ChangeShapes Go.WideShapes Go.ChangeAt Go.RowKit Go.Joins
set_option linter.unusedVariables false

structure TrS where
  F : Nat → Fl
  used : Int
  i : Nat
def cutF (ks : List Int) (i : Nat) (f : Fl) : Nat := f.safe + (modD (pickD ks i) ((f.bytes.length : Int) - f.safe + 1)).toNat
def trimStep (ks : List Int) (D : DM) (T : TrS) (s : List UInt8) : TrS :=
  let n := (numD D ⟨s.toArray⟩).toNat
  let f := T.F n
  if f.safe < f.bytes.length then ⟨upd T.F n ⟨f.bytes.take (cutF ks T.i f), cutF ks T.i f⟩, wrap64 (T.used + (cutF ks T.i f : Nat)), T.i + 1⟩
  else ⟨upd T.F n { f with safe := f.bytes.length }, wrap64 (T.used + f.bytes.length), T.i⟩
def trimTo (ks : List Int) (D : DM) (F : Nat → Fl) (k : Nat) : TrS := ((namesD D).take k).foldl (trimStep ks D) ⟨F, 0, 0⟩
theorem trimTo_succ {ks : List Int} {D : DM} {F : Nat → Fl} {k : Nat} (h : k < (namesD D).length) : trimTo ks D F (k + 1) = trimStep ks D (trimTo ks D F k) (namesD D)[k] := by
  unfold trimTo
  rw [List.take_succ_eq_append_getElem h, List.foldl_append]; rfl
def trimS (ks : List Int) (S : St) : St := { S with F := (trimTo ks S.Dn S.F (namesD S.Dn).length).F, d := { S.d with used := (trimTo ks S.Dn S.F (namesD S.Dn).length).used } }
theorem trimTo_i (ks : List Int) (D : DM) (F : Nat → Fl) : ∀ k, k ≤ (namesD D).length → (trimTo ks D F k).i ≤ k
  | 0, _ => Nat.le_refl _
  | k + 1, h => by
    have ih := trimTo_i ks D F k (by omega)
    rw [trimTo_succ (by omega)]
    unfold trimStep
    simp only
    split
    · show _ + 1 ≤ k + 1; omega
    · show (trimTo ks D F k).i ≤ k + 1; omega

theorem cut_range {ks : List Int} {i : Nat} {f : Fl} (h : f.safe ≤ f.bytes.length) : f.safe ≤ cutF ks i f ∧ cutF ks i f ≤ f.bytes.length ∧ modD (pickD ks i) ((f.bytes.length : Int) - f.safe + 1) = (cutF ks i f : Int) - f.safe := by
  have := modD_range (n := pickD ks i) (m := (f.bytes.length : Int) - f.safe + 1) (by omega)
  unfold cutF
  omega
/-- The names of a table are its keys. -/
theorem names_has {ι : Nat → Option Nat} {w : World} {t : Option Nat} {n : Nat} {D : DM} (h : Tab ι w t n D) {s : List UInt8} (hs : s ∈ namesD D) : Maps.has D (keyD ⟨s.toArray⟩) = true ∧ s.length ≤ maxLen := by
  have hs : s ∈ strKeys D := (List.mergeSort_perm _ _).mem_iff.1 hs
  rcases h with ⟨rfl, rfl⟩ | ⟨b, rfl, hown⟩
  · cases hs
  · refine ⟨?_, strKeys_le hown Try.underlying9 s hs⟩
    obtain ⟨es, rfl, hk⟩ := hown.keysOf
    obtain ⟨p, hp, rfl⟩ := List.mem_map.1 hs
    obtain ⟨v, hv⟩ := hk p hp
    obtain ⟨s', _, e, _⟩ := keyOf_inv hv
    refine List.any_eq_true.2 ⟨p, hp, ?_⟩
    rw [e]
    have e2 : keyD ⟨(Go.strOf (keyD s')).toArray⟩ = keyD s' := by simp [keyD, Go.strOf]
    rw [e2]
    exact WideAt.sameKey_self (keyD_lit s')
theorem names_len {ι : Nat → Option Nat} {w : World} {t : Option Nat} {n : Nat} {D : DM} (h : Tab ι w t n D) : (namesD D).length ≤ n := by
  unfold namesD
  rw [List.length_mergeSort]
  rcases h with ⟨rfl, rfl⟩ | ⟨b, rfl, hown⟩
  · exact Nat.zero_le _
  · have := hown.size_le
    obtain ⟨es, rfl, _⟩ := hown.keysOf
    simpa [strKeys, Maps.size] using this

theorem upd_upd {α : Type} (f : Nat → α) (i : Nat) (x y : α) : upd (upd f i x) i y = upd f i y := by
  funext j
  unfold upd
  split <;> rfl
/-- A file's bytes are laid anew. -/
theorem Rep.bytes {w w2 : World} {B : Nat} {S : St} {g : Gh} (h : Rep w B S g) {b i : Nat} (hi : g.ι b = some i) {v' : Value} (m : List Nat) (hm : ∀ n ∈ m, n < 256) (hsz : m.length ≤ 1000000) (hsf : (S.F i).safe ≤ m.length) (hN : NewB w w2 v' m.length (m.map byteD)) :
    Rep (w2.setCell ⟨b, 0, none⟩ v') B { S with F := upd S.F i { S.F i with bytes := m } } { g with rb := upd g.rb i v'.ownBlock } ∧ (∀ j, Foot B { g with rb := upd g.rb i v'.ownBlock } j → Foot B g j ∨ w.heap.size ≤ j) ∧ Fr (fun k => k = b) w (w2.setCell ⟨b, 0, none⟩ v') := by
  obtain ⟨f1, f2, f3, v0, e, ho, hb⟩ := h.files b i hi
  have hlt := blk_lt hb
  have hvb : ∀ r, v'.ownBlock = some r → r ≠ b := fun r hr e2 => by have := hN.new r hr; omega
  have k3 : Fr (fun k => k = b) w (w2.setCell ⟨b, 0, none⟩ v') := Fr.set (X := fun k => k = b) (Fr.of_below hN.low) (p := ⟨b, 0, none⟩) (fun _ => rfl) v'
  have hb2 : w2.heap[b]? = some (.cells #[v0, .int .i64 ((S.F i).safe : Int)] 69 (0, 0)) := (hN.low.block b hlt).trans hb
  have hf' : FileAt (w2.setCell ⟨b, 0, none⟩ v') b v'.ownBlock { S.F i with bytes := m } := by
    refine ⟨hm, hsz, hsf, v', rfl, ⟨hN.row.1, ?_⟩, ?_⟩
    · rcases hN.row.2 with h0 | ⟨r, cap, cur, e1, e2, e3, e4⟩
      · exact .inl h0
      · refine .inr ⟨r, cap, cur, e1, e2, ?_, e4⟩
        rw [heap_setCell_other _ _ _ _ (by show r ≠ b; exact hvb r (by rw [e1]; rfl))]; exact e3
    · rw [heap_setCell_same w2 b 0 _ _ _ hb2]; rfl
  obtain ⟨r1, r2⟩ := h.file hi hf' (fun k hk => .inr (hN.new k hk)) (k3.mono fun _ _ h => .inl h)
  exact ⟨r1, r2, k3⟩
theorem Rep.safe' {w : World} {B : Nat} {S : St} {g : Gh} (h : Rep w B S g) {b i : Nat} (hi : g.ι b = some i) (n : Nat) (hn : n ≤ (S.F i).bytes.length) :
    Rep (w.setCell ⟨b, 1, none⟩ (.int .i64 (n : Int))) B { S with F := upd S.F i { S.F i with safe := n } } { g with rb := upd g.rb i (g.rb i) } := by
  have hf := h.files b i hi
  obtain ⟨f1, f2, f3, v, e, ho, hb⟩ := hf
  have k : Fr (fun k => k = b ∨ g.rb i = some k) w (w.setCell ⟨b, 1, none⟩ (.int .i64 (n : Int))) := (Fr.refl _ w).set (fun _ => .inl rfl) _
  have hf' : FileAt (w.setCell ⟨b, 1, none⟩ (.int .i64 (n : Int))) b (g.rb i) { S.F i with safe := n } := by
    refine ⟨f1, f2, hn, v, e, ⟨ho.1, ?_⟩, ?_⟩
    · rcases ho.2 with h0 | ⟨r, cap, cur, hv, hg0, hg, rr⟩
      · exact .inl h0
      · refine .inr ⟨r, cap, cur, hv, hg0, ?_, rr⟩
        rw [heap_setCell_other _ _ _ _ (by show r ≠ b; intro e2; subst e2; rw [hb] at hg; cases hg)]
        exact hg
    · rw [heap_setCell_same w b 1 _ _ _ hb]; rfl
  exact (h.file hi hf' (fun k hk => .inl hk) k).1

theorem Ks.fr {X : Nat → Prop} {w w' : World} {a : Option Addr} {cap : Nat} {ks : List Int} (h : Ks w a cap ks) (k : Fr X w w') (hx : ∀ p, a = Option.some p → ks ≠ [] → ¬ X p.block) : Ks w' a cap ks := by
  refine ⟨h.rng, h.len, h.most, h.none, ?_⟩
  rcases h.here with h0 | ⟨b, off, e, hb⟩
  · exact .inl h0
  · refine .inr ⟨b, off, e, fun i hi => ?_⟩
    have h1 := hb i hi
    have hlt := World.block_lt_of_cell? w _ h1
    rw [World.cell?_of_block (w := w) (k.block b hlt (hx _ e (fun e0 => by subst e0; simp at hi)))]
    exact h1
theorem pickD_range {ks : List Int} (h : ∀ x ∈ ks, -9223372036854775808 ≤ x ∧ x ≤ 9223372036854775807) (i : Nat) : -9223372036854775808 ≤ pickD ks i ∧ pickD ks i ≤ 9223372036854775807 := by
  unfold pickD
  by_cases hl : i % ks.length < ks.length
  · rw [List.getD_eq_getElem?_getD, List.getElem?_eq_getElem hl]
    exact h _ (List.getElem_mem hl)
  · rw [List.getD_eq_getElem?_getD, List.getElem?_eq_none (by omega)]
    decide

theorem row_fr {X : Nat → Prop} {w w' : World} {B e s n : Nat} {v : Value} {xs : List Value} (h : w.ownsRow B e s v n xs) (k : Fr X w w') (hx : ∀ r, v.ownBlock = some r → ¬ X r) : w'.ownsRow B e s v n xs := by
  refine ⟨h.1, ?_⟩
  rcases h.2 with h0 | ⟨g, cap, cur, hv, hg0, hg, r⟩
  · exact .inl h0
  · subst hv
    exact .inr ⟨g, cap, cur, rfl, hg0, (k.block g (Array.getElem?_eq_some_iff.1 hg).1 (hx g rfl)).trans hg, r⟩
theorem row_cut {w : World} {e n m : Nat} {a : Addr} {cap : Nat} {xs : List Value} (h : w.ownsRow 0 e 1 (.slice (some a) n cap) n xs) (hm : m ≤ n) : w.ownsRow 0 e 1 (.slice (some a) m cap) m (xs.take m) := by
  refine ⟨by rw [List.length_take, h.1]; omega, ?_⟩
  rcases h.2 with ⟨h0, _⟩ | ⟨g, cap', cur, hv, hg0, hg, h1, h2, h3, h4⟩
  · cases h0
  · cases hv
    refine .inr ⟨g, _, cur, rfl, hg0, hg, by omega, h2, h3, ?_⟩
    rw [← h4, List.take_take]
    congr 1
    omega
theorem Rep.use {w : World} {B : Nat} {S : St} {g : Gh} (h : Rep w B S g) (u : Int) (h1 : -9223372036854775808 ≤ u) (h2 : u ≤ 9223372036854775807) : Rep (w.setCell ⟨B, 1, none⟩ (.int .i64 u)) B { S with d := { S.d with used := u } } g := by
  have ok := h.at'.ok
  exact h.core (h.at'.set 1 _ ⟨ok.cap1, ok.cap2, h1, h2, ok.fl1, ok.fl2, ok.gl1, ok.gl2, ok.len⟩ (by simp [Dk.cells, Gh.on])) (Only.set B 1 w _)
theorem foot_same {B : Nat} {g : Gh} {b i : Nat} (hi : g.ι b = some i) {j : Nat} (h : Foot B { g with rb := upd g.rb i (g.rb i) } j) : Foot B g j := by
  have e : upd g.rb i (g.rb i) = g.rb := by
    funext q
    unfold upd
    split
    · rename_i h; rw [h]
    · rfl
  rw [e] at h
  exact h
def trS (ks : List Int) (S : St) (k : Nat) : St := { S with F := (trimTo ks S.Dn S.F k).F, d := { S.d with used := (trimTo ks S.Dn S.F k).used } }
theorem trS_dn (ks : List Int) (S : St) (k : Nat) : (trS ks S k).Dn = S.Dn := rfl
/-- What holds at the head of each of trim's rounds. -/
structure TrAt (w w2 : World) (B : Nat) (S : St) (g : Gh) (ks : List Int) (v : Value) (k : Nat) (wr : World) (gk : Gh) : Prop where
  rep : Rep wr B (trS ks S k) gk
  foot : ∀ j, Foot B gk j → Foot B g j ∨ w2.heap.size ≤ j
  nm : gk.nm = g.nm
  fr : Fr (Foot B g) w wr
  low : w2.heap.size ≤ wr.heap.size
  names : wr.ownsRow 0 9 1 v (namesD S.Dn).length ((namesD S.Dn).map encStr)
structure TrFix (w w2 : World) (B : Nat) (g : Gh) (v : Value) : Prop where
  lt : ∀ j, Foot B g j → j < w.heap.size
  vb : ∀ r, v.ownBlock = some r → w.heap.size ≤ r ∧ r < w2.heap.size
  le : w.heap.size ≤ w2.heap.size
theorem TrAt.next {w w2 wr wr' : World} {B : Nat} {S : St} {g gk gk' : Gh} {ks : List Int} {v : Value} {k : Nat} (h : TrAt w w2 B S g ks v k wr gk) (X : TrFix w w2 B g v) (r : Rep wr' B (trS ks S (k + 1)) gk') (f : Fr (Foot B gk) wr wr') (hf : ∀ j, Foot B gk' j → Foot B gk j ∨ wr.heap.size ≤ j) (hn : gk'.nm = gk.nm) : TrAt w w2 B S g ks v (k + 1) wr' gk' := by
  refine ⟨r, fun j hj => ?_, hn.trans h.nm, ⟨f.os.trans h.fr.os, f.tape.trans h.fr.tape, f.output.trans h.fr.output, Nat.le_trans h.fr.size f.size, fun j hj hx => ?_⟩, Nat.le_trans h.low f.size, row_fr h.names f fun q hq e => ?_⟩
  · rcases hf j hj with e | e
    · exact h.foot j e
    · exact .inr (Nat.le_trans h.low e)
  · rw [f.block j (Nat.lt_of_lt_of_le hj h.fr.size) (fun e => ?_)]
    · exact h.fr.block j hj hx
    · rcases h.foot j e with e | e
      · exact hx e
      · have := X.le; omega
  · have := X.vb q hq
    rcases h.foot q e with e | e
    · have := X.lt q e; omega
    · omega

set_option maxRecDepth 100000 in
set_option maxHeartbeats 4000000 in
theorem trim_any {w : World} {B : Nat} {S : St} {g : Gh} (h : Rep w B S g) (hI : OkD S.Dn) (hst : S.steps ≤ 900) (a : Option Addr) (cap : Nat) (ks : List Int) (hk : Ks w a cap ks) (hfar : ∀ p, a = some p → ks ≠ [] → ¬ Foot B g p.block) :
    Calls Try.prog 33 #[.pointer (some ⟨B, 0, none⟩), .slice a ks.length cap] w fun e w' => e = .returned (.tuple #[]) ∧ Did B (trimS ks S) g w w' := by
  have hkl : ks.length ≤ 9223372036854775807 := by have h1 := hk.len; have h2 := hk.most; unfold maxLen at h2; omega
  have hns := h.nn
  have hnl := names_len h.nm
  have hN : (namesD S.Dn).length ≤ 900 := by omega
  have H := Lib.hid h
  have HI := Lib.hid hI
  have HK := Lib.hid hk
  have HFAR := Lib.hid hfar
  have c1 : w.cell? ⟨B, 1, none⟩ = some (.int .i64 S.d.used) := by rw [h.at'.cell]; simp [Dk.cells, Gh.on]
  have f1 := h.at'.loose 1
  have ok := h.at'.ok
  have D1 : Hid (DkAt (w.setCell ⟨B, 1, none⟩ (.int .i64 0)) B (g.on { S.d with used := 0 })) := h.at'.set 1 _ ⟨ok.cap1, ok.cap2, by show (-9223372036854775808 : Int) ≤ 0; decide, by show (0 : Int) ≤ 9223372036854775807; decide, ok.fl1, ok.fl2, ok.gl1, ok.gl2, ok.len⟩ (by simp [Dk.cells, Gh.on])
  have R1 : Hid (Rep (w.setCell ⟨B, 1, none⟩ (.int .i64 0)) B (trS ks S 0) g) := h.core D1.out (Only.set B 1 w _)
  have F1 : Hid (Fr (Foot B g) w (w.setCell ⟨B, 1, none⟩ (.int .i64 0))) := Fr.of_only (Only.set B 1 w _) (.inl rfl)
  have c2 : (w.setCell ⟨B, 1, none⟩ (.int .i64 0)).cell? ⟨B, 2, none⟩ = some (.map g.nm) := by rw [D1.out.cell]; simp [Dk.cells, Gh.on]
  have hs1 := sorted_any (D := S.Dn) R1.out.nm (by omega)
  clear h hI hst hk hfar ok hns hnl
  go_enter Try.func33, Try.ntmps33
  go_wp2_with fail
  (with_reducible refine hs1.mono ?_)
  rintro e w2 ⟨v, rfl, N2⟩
  obtain ⟨a0, c0, rfl, hc0, hc0'⟩ := own_shape N2.row
  have HX : Hid (TrFix w w2 B g (.slice a0 (namesD S.Dn).length c0)) := by
    have hz := N2.low.size
    rw [World.size_setCell] at hz
    refine ⟨fun j hj => H.out.foot_lt hj, fun r hr => ⟨by have := N2.new r hr; rwa [World.size_setCell] at this, ?_⟩, hz⟩
    rcases N2.row.2 with ⟨h0, _⟩ | ⟨gg, cap, cur, hv, _, hg, _⟩
    · rw [h0] at hr; cases hr
    · rw [hv] at hr
      have : gg = r := Option.some.inj hr
      subst this
      exact blk_lt hg
  have HT0 : Hid (TrAt w w2 B S g ks (.slice a0 (namesD S.Dn).length c0) 0 w2 g) := ⟨R1.out.later N2.low, fun j hj => .inl hj, rfl, F1.out.later N2.low, Nat.le_refl _, N2.row⟩
  have HC0 := Lib.hid (And.intro hc0 hc0')
  clear N2 hs1 c1 f1 c2 hc0 hc0'
  obtain ⟨M, hM⟩ : ∃ M, (namesD S.Dn).length = M := ⟨_, rfl⟩
  have HM := Lib.hid hM
  rw [hM] at HX HT0 HC0 hN ⊢
  clear hM
  go_wp2_with fail
  go_loopg [4, 19] M (fun gg i j wr => ∃ k gk, k ≤ M ∧ M - k ≤ gg ∧ j = .int .i64 (k : Int) ∧ i = .int .i64 ((trimTo ks S.Dn S.F k).i : Int) ∧ Hid (TrAt w w2 B S g ks (.slice a0 M c0) k wr gk))
  case atStart => exact ⟨0, g, by omega, by omega, rfl, rfl, HT0.out⟩
  case round =>
    obtain ⟨k, gk, hkM, hgg, rfl, rfl, HT⟩ := hrel
    by_cases hlt : k < M
    · have hltz : (k : Int) < (M : Int) := by omega
      have hkN : k < (namesD S.Dn).length := by rw [HM.out]; exact hlt
      have HTS := Lib.hid (trimTo_succ (ks := ks) (F := S.F) hkN)
      have hti := trimTo_i ks S.Dn S.F k (by omega)
      obtain ⟨hhas, hsl⟩ := names_has HT.out.rep.nm (List.getElem_mem hkN)
      obtain ⟨i, hi⟩ := HI.out.all _ hhas
      have hrow := HT.out.names
      obtain ⟨r0, rfl⟩ : ∃ r0, a0 = some ⟨r0, 0, none⟩ := by
        rcases hrow.2 with ⟨_, h0⟩ | ⟨gg, cap, cur, hv, _⟩
        · omega
        · cases hv; exact ⟨_, rfl⟩
      have s0 : wr.cell? ⟨r0, k, none⟩ = some (.string ⟨(namesD S.Dn)[k].toArray⟩) := by
        have := hrow.cells (g := r0) rfl k (encStr (namesD S.Dn)[k]) (by simp [hkN])
        by_cases k0 : k = 0
        · subst k0; simpa [Addr.add] using this
        · simpa [Addr.add, k0] using this
      have hnm := HT.out.rep.nm.num (s := ⟨(namesD S.Dn)[k].toArray⟩) (by show (namesD S.Dn)[k].toArray.size ≤ maxLen; simpa using hsl)
      have hnum := hi.num
      rw [trS_dn, hnum, HT.out.nm] at hnm
      obtain ⟨b, i', hb, hii, hlook⟩ : ∃ b i', gk.ι b = some i' ∧ (i : Int) = (i' : Int) ∧ (Instr.lookup 45 (.map g.nm) (.string ⟨(namesD S.Dn)[k].toArray⟩) false).run Try.prog wr = .ok (.pointer (some ⟨b, 0, none⟩)) wr := by
        rcases hnm with ⟨e, _⟩ | h
        · omega
        · exact h
      obtain rfl : i = i' := by omega
      have HB := Lib.hid (And.intro hb hnum)
      have c2 : wr.cell? ⟨B, 2, none⟩ = some (.map g.nm) := by rw [HT.out.rep.at'.cell]; simp [Dk.cells, Gh.on, HT.out.nm]
      obtain ⟨fb, fz, fs, vv, fe, fo, fblk⟩ : FileAt wr b (gk.rb i) ((trimTo ks S.Dn S.F k).F i) := HT.out.rep.files b i hb
      obtain ⟨nm, hnmk⟩ : ∃ nm, (namesD S.Dn)[k] = nm := ⟨_, rfl⟩
      rw [hnmk] at s0 hlook HB HTS
      clear hnm hi hhas hrow hnum hii hb hsl hnmk
      have HSTEP : Hid (trimStep ks S.Dn (trimTo ks S.Dn S.F k) nm = if ((trimTo ks S.Dn S.F k).F i).safe < ((trimTo ks S.Dn S.F k).F i).bytes.length then ⟨upd (trimTo ks S.Dn S.F k).F i ⟨((trimTo ks S.Dn S.F k).F i).bytes.take (cutF ks (trimTo ks S.Dn S.F k).i ((trimTo ks S.Dn S.F k).F i)), cutF ks (trimTo ks S.Dn S.F k).i ((trimTo ks S.Dn S.F k).F i)⟩, wrap64 ((trimTo ks S.Dn S.F k).used + (cutF ks (trimTo ks S.Dn S.F k).i ((trimTo ks S.Dn S.F k).F i) : Nat)), (trimTo ks S.Dn S.F k).i + 1⟩ else ⟨upd (trimTo ks S.Dn S.F k).F i { (trimTo ks S.Dn S.F k).F i with safe := ((trimTo ks S.Dn S.F k).F i).bytes.length }, wrap64 ((trimTo ks S.Dn S.F k).used + ((trimTo ks S.Dn S.F k).F i).bytes.length), (trimTo ks S.Dn S.F k).i⟩) := by
        show _ = _
        unfold trimStep
        rw [show (numD S.Dn ⟨nm.toArray⟩).toNat = i by rw [HB.out.2]; rfl]
      have HTS2 : Hid (trimTo ks S.Dn S.F (k + 1) = _) := HTS.out.trans HSTEP.out
      clear HTS HSTEP
      have HTI : Hid (trS ks S k = { S with F := (trimTo ks S.Dn S.F k).F, d := { S.d with used := (trimTo ks S.Dn S.F k).used } }) := rfl
      have HTI1 : Hid (trS ks S (k + 1) = { S with F := (trimTo ks S.Dn S.F (k + 1)).F, d := { S.d with used := (trimTo ks S.Dn S.F (k + 1)).used } }) := rfl
      obtain ⟨af, cf, rfl, hcf1, hcf2⟩ := own_shape fo
      have g0 : wr.cell? ⟨b, 0, none⟩ = some (.slice af ((trimTo ks S.Dn S.F k).F i).bytes.length cf) := by rw [cell_of_row wr b 0 _ _ (0, 0) fblk]; rfl
      have g1 : wr.cell? ⟨b, 1, none⟩ = some (.int .i64 (((trimTo ks S.Dn S.F k).F i).safe : Int)) := by rw [cell_of_row wr b 1 _ _ (0, 0) fblk]; rfl
      have HFO := Lib.hid fo
      have HFB := Lib.hid fb
      clear fo fb fe fblk hcf1
      obtain ⟨T, hT⟩ : ∃ T, trimTo ks S.Dn S.F k = T := ⟨_, rfl⟩
      obtain ⟨T1, hT1⟩ : ∃ T1, trimTo ks S.Dn S.F (k + 1) = T1 := ⟨_, rfl⟩
      have HT1 := Lib.hid hT1
      rw [hT] at HTS2 HTI g0 g1 HFO HFB fz fs hcf2 hti ⊢
      rw [hT1] at HTS2 HTI1
      clear hT hT1
      obtain ⟨f, hf⟩ : ∃ f, T.F i = f := ⟨_, rfl⟩
      have HF := Lib.hid hf
      rw [hf] at HTS2 g0 g1 HFO HFB fz fs hcf2
      clear hf
      obtain ⟨ti, hti'⟩ : ∃ ti, T.i = ti := ⟨_, rfl⟩
      have HTI' := Lib.hid hti'
      rw [hti'] at HTS2 hti ⊢
      clear hti'
      by_cases hsf : f.safe < f.bytes.length
      · have hcut := cut_range (ks := ks) (i := ti) fs
        obtain ⟨C, hC⟩ : ∃ C, cutF ks ti f = C := ⟨_, rfl⟩
        rw [hC] at hcut HTS2
        have HT1' : Hid (T1 = ⟨upd T.F i ⟨f.bytes.take C, C⟩, wrap64 (T.used + (C : Int)), ti + 1⟩) := by
          show _ = _
          rw [HTS2.out, if_pos hsf]
        clear HTS2 hC
        obtain ⟨rf, rfl⟩ : ∃ rf, af = some ⟨rf, 0, none⟩ := by
          rcases HFO.out.2 with ⟨_, h0⟩ | ⟨gg, cap, cur, hv, _⟩
          · omega
          · cases hv; exact ⟨_, rfl⟩
        have RK := Lib.hid (show Rep wr B { S with F := T.F, d := { S.d with used := T.used } } gk from by have := HT.out.rep; rw [HTI.out] at this; exact this)
        have HFC := Lib.hid (row_cut HFO.out hcut.2.1)
        have HTL : Hid ((f.bytes.take C).length = C) := by show _ = _; rw [List.length_take]; omega
        have HBY : Hid (∀ n ∈ f.bytes.take C, n < 256) := fun n hn => HFB.out n (List.mem_of_mem_take hn)
        obtain ⟨n, hn⟩ : ∃ n, f.bytes.length = n := ⟨_, rfl⟩
        obtain ⟨sf, hsfe⟩ : ∃ sf, f.safe = sf := ⟨_, rfl⟩
        have HSFE := Lib.hid hsfe
        rw [hn] at g0 fz fs hcut hsf hcf2
        rw [hsfe] at g1 fs hcut hsf
        clear hn hsfe
        obtain ⟨L, hL⟩ : ∃ L : Nat, n = sf + L := ⟨n - sf, by omega⟩
        have hL0 : 0 < L := by omega
        have hL1 : L ≤ 1000000 := by omega
        have hLi : (n : Int) - (sf : Int) = (L : Int) := by omega
        obtain ⟨q, hq⟩ : ∃ q : Int, modD (pickD ks ti) ((n : Int) - (sf : Int) + 1) = q := ⟨_, rfl⟩
        rw [hq] at hcut
        rw [hLi] at hq
        have hwL : IntKind.i64.wrap ((n : Int) - (sf : Int)) = (L : Int) := by rw [hLi]; exact IntWalk.i64_in _ (by omega)
        have hwq : IntKind.i64.wrap ((sf : Int) + q) = (C : Int) := by rw [hcut.2.2]; rw [show (sf : Int) + ((C : Int) - sf) = (C : Int) by omega]; exact IntWalk.i64_in _ (by omega)
        have hpr := pickD_range HK.out.rng ti
        have hmd := fun w => modulo_any (pickD ks ti) ((L : Int) + 1) hpr.1 hpr.2 (by omega) (by omega) w
        rw [hq] at hmd
        have hpk := fun w' (hb : Below wr.heap.size wr w') => pick_any a cap ks ti (by omega) w' (HK.out.fr (HT.out.fr.later hb) HFAR.out)
        obtain ⟨P, hP⟩ : ∃ P, pickD ks ti = P := ⟨_, rfl⟩
        rw [hP] at hmd hpk
        have hq1 : 0 ≤ q ∧ q ≤ 1000000 := by have := hcut.2.2; omega
        have hCn : (C : Int) ≤ (cf : Int) := by omega
        have hC0 : (0 : Int) ≤ (C : Int) := by omega
        have hCm : C ≤ 1000000 := by omega
        have HCU := Lib.hid hcut
        clear hL hLi hq hcut hsf hP hpr fs hcf2
        have hbd : ∀ q, Below wr.heap.size wr (wr.drewN q) := fun q => ⟨rfl, rfl, rfl, Nat.le_refl _, fun _ _ => rfl⟩
        have HBD := Lib.hid hbd
        have HPK := Lib.hid hpk
        clear hbd hpk
        go_wp2_with fail
        go_quiet (fail)
        have hpk := HPK.out _ (HBD.out nq)
        go_upto_region 9 with (first | (go_at_call 43; (with_reducible refine hpk.mono ?_); rintro e w3 ⟨rfl, rfl⟩) | (go_at_call 32; (with_reducible refine (hmd _).mono ?_); rintro e w3 ⟨rfl, rfl⟩))
        have HB3 := Lib.hid (HBD.out nq)
        have g0' : (wr.drewN nq).cell? ⟨b, 0, none⟩ = some (.slice (some ⟨rf, 0, none⟩) n cf) := g0
        have g1' : (wr.drewN nq).cell? ⟨b, 1, none⟩ = some (.int .i64 (sf : Int)) := g1
        generalize wr.drewN nq = w3 at *
        have e0 := cell_up g0'
        have e1 := cell_up g1'
        clear g0 g1 g0' g1' hpk hmd HPK HBD s0 hlook c2 hwL
        refine growT_begin 15 (by kernel_rfl) ?_
        refine growT_take (by kernel_rfl) [0, 1, 2, 3, 4, 5, 6, 7, 8, 9, 10, 11] 4 _ _ (by kernel_rfl) ?_
        simp only [opsAt, List.getElem?_toArray, List.getElem?_cons_succ, List.getElem?_cons_zero]
        repeat (first | go_big_quiet_step (fail) | quiet_step (fail))
        refine wpQuiet_nil ?_
        intro w4 hw4
        have hb4 : Below wr.heap.size wr w4 := HB3.out.trans ((below_of_up hw4).mono HB3.out.size)
        have HB4 := Lib.hid hb4
        clear e0 e1
        refine growT_one 12 (by kernel_rfl) hw4 (fun K hK => ?_)
        simp only [stepOf, List.getElem?_toArray, List.getElem?_cons_succ, List.getElem?_cons_zero]
        go_simp
        go_at_call 39
        refine (cloneB_any (row_fr (X := fun _ => False) HFC.out (Fr.of_below HB4.out) (fun _ _ h => h)) (by omega) (fun u hu => by obtain ⟨j, hj, rfl⟩ := List.mem_map.1 (List.mem_of_mem_take hu); rfl)).mono ?_
        rintro e w5 ⟨v', rfl, N5⟩
        obtain ⟨a', c', rfl, -, -⟩ := own_shape N5.row
        have HN5 := Lib.hid N5
        refine hK.out _ _ N5.low ?_
        clear hK K N5 hw4 hb4
        refine growT_take (by kernel_rfl) [13, 14] 1 _ _ (by kernel_rfl) ?_
        simp only [opsAt, List.getElem?_toArray, List.getElem?_cons_succ, List.getElem?_cons_zero]
        repeat (first | go_big_quiet_step (fail) | quiet_step (fail))
        refine wpQuiet_nil ?_
        intro w6 hw6
        have hb6 : Below w5.heap.size w5 w6 := below_of_up hw6
        have N6 : NewB w4 w6 (.slice a' C c') C ((f.bytes.map byteD).take C) := ⟨row_fr (X := fun _ => False) HN5.out.row (Fr.of_below hb6) (fun _ _ h => h), HN5.out.new, HN5.out.low.trans (hb6.mono HN5.out.low.size)⟩
        have R4a := RK.out.later HB4.out
        have hmk : (f.bytes.map byteD).take C = (f.bytes.take C).map byteD := by rw [List.map_take]
        have hbytes := R4a.bytes HB.out.1 (f.bytes.take C) HBY.out (by rw [HTL.out]; omega) (by show (T.F i).safe ≤ _; rw [HF.out, HSFE.out, HTL.out]; exact HCU.out.1) (by rw [HTL.out, ← hmk]; exact N6)
        obtain ⟨_, fblk⟩ := (R4a.files b i HB.out.1).block
        have fb6 := (N6.low.block b (blk_lt fblk)).trans fblk
        have k2 := unfrozen_of_block fb6 0
        have k1 : ∃ u, w6.cell? ⟨b, 0, none⟩ = some u := by
          have h5 := RK.out.files b i HB.out.1
          obtain ⟨_, _, _, v5, _, o5, b5⟩ := h5
          have b6 := ((HB4.out.trans (N6.low.mono HB4.out.size)).block b (blk_lt b5)).trans b5
          exact ⟨v5, by rw [cell_of_row w6 b 0 _ _ (0, 0) b6]; rfl⟩
        obtain ⟨u6', k1⟩ := k1
        have HBYT := Lib.hid hbytes
        have hlow6 : Below wr.heap.size wr w6 := HB4.out.trans (N6.low.mono HB4.out.size)
        have HL6 := Lib.hid hlow6
        clear N6 R4a hbytes fblk fb6 hlow6 hmk hb6 hw6 HN5
        refine growT_last (by kernel_rfl) (by kernel_rfl) (fun K hK => ?_)
        simp only [stepOf, List.getElem?_toArray, List.getElem?_cons_succ, List.getElem?_cons_zero]
        go_simp
        refine hK.out _ _ ?_
        clear hK K k1 k2
        have F9 : Hid (Fr (Foot B gk) wr (w6.setCell ⟨b, 0, none⟩ (.slice a' C c'))) := Fr.set (X := Foot B gk) (Fr.of_below HL6.out) (p := ⟨b, 0, none⟩) (fun _ => .inr (.inr (.inr (.inr (.inl ⟨i, HB.out.1⟩))))) _
        have HZ4 := Lib.hid HB4.out.size
        generalize w6.setCell ⟨b, 0, none⟩ (.slice a' C c') = w9 at *
        have R9a := HBYT.out.1
        obtain ⟨_, _, _, v9, _, o9, b9⟩ : FileAt w9 b _ ((upd T.F i { T.F i with bytes := f.bytes.take C }) i) := R9a.files b i HB.out.1
        obtain ⟨a9, c9, rfl, -, -⟩ := own_shape o9
        have hl9 : ((upd T.F i { T.F i with bytes := f.bytes.take C }) i).bytes.length = C := by rw [upd_same]; exact HTL.out
        rw [hl9] at b9
        have g0 : w9.cell? ⟨b, 0, none⟩ = some (.slice a9 C c9) := by rw [cell_of_row w9 b 0 _ _ (0, 0) b9]; rfl
        have g1 : w9.cell? ⟨b, 1, none⟩ = some (.int .i64 (((upd T.F i { T.F i with bytes := f.bytes.take C }) i).safe : Int)) := by rw [cell_of_row w9 b 1 _ _ (0, 0) b9]; rfl
        have g1f := unfrozen_of_block b9 1
        have hsv := R9a.safe' HB.out.1 C (by rw [hl9]; exact Nat.le_refl _)
        simp only [upd_same, upd_upd] at hsv
        have R4 := Lib.hid hsv
        have F4 : Hid (Fr (Foot B gk) wr (w9.setCell ⟨b, 1, none⟩ (.int .i64 (C : Int)))) := Fr.set (X := Foot B gk) F9.out (p := ⟨b, 1, none⟩) (fun _ => .inr (.inr (.inr (.inr (.inl ⟨i, HB.out.1⟩))))) _
        have HG4 : Hid (∀ j, Foot B { gk with rb := upd gk.rb i (Value.slice a' C c').ownBlock } j → Foot B gk j ∨ wr.heap.size ≤ j) := fun j hj => (HBYT.out.2.1 j hj).imp id fun e => Nat.le_trans HZ4.out e
        have hlen : ((upd T.F i ⟨f.bytes.take C, C⟩) i).bytes.length = C := by rw [upd_same]; exact HTL.out
        clear o9 b9 hl9 hsv R9a
        go_upto_region 12 with fail
        clear g0 g1 g1f
        generalize w9.setCell ⟨b, 1, none⟩ (.int .i64 (C : Int)) = w10 at *
        have c1 : w10.cell? ⟨B, 1, none⟩ = some (.int .i64 T.used) := by rw [R4.out.at'.cell]; simp [Dk.cells, Gh.on]
        obtain ⟨_, _, _, v4, _, o4, b4⟩ : FileAt w10 b _ ((upd T.F i ⟨f.bytes.take C, C⟩) i) := R4.out.files b i HB.out.1
        obtain ⟨a4, c4, rfl, -, -⟩ := own_shape o4
        rw [hlen] at b4
        have c0' : w10.cell? ⟨b, 0, none⟩ = some (.slice a4 C c4) := by rw [cell_of_row w10 b 0 _ _ (0, 0) b4]; rfl
        have e1 := cell_up c1
        have e0 := cell_up c0'
        clear c1 c0' o4 b4 hlen
        refine growT_begin 12 (by kernel_rfl) ?_
        refine growT_take (by kernel_rfl) [0, 1, 2, 3, 4, 5, 6, 7, 8, 9, 10, 11] 1 _ _ (by kernel_rfl) ?_
        simp only [opsAt, List.getElem?_toArray, List.getElem?_cons_succ, List.getElem?_cons_zero]
        repeat (first | go_big_quiet_step (fail) | quiet_step (fail))
        refine wpQuiet_nil ?_
        intro w8 hw8
        have hb8 := below_of_up hw8
        have R8 := Lib.hid (R4.out.later hb8)
        have k1 : w8.cell? ⟨B, 1, none⟩ = some (.int .i64 T.used) := by rw [R8.out.at'.cell]; simp [Dk.cells, Gh.on]
        have k2 := R8.out.at'.loose 1
        have F8 := Lib.hid (F4.out.later hb8)
        refine growT_last (by kernel_rfl) (by kernel_rfl) (fun K hK => ?_)
        simp only [stepOf, List.getElem?_toArray, List.getElem?_cons_succ, List.getElem?_cons_zero]
        go_simp
        refine hK.out _ _ ?_
        have R9 : Hid (TrAt w w2 B S g ks (.slice (some ⟨r0, 0, none⟩) M c0) (k + 1) (w8.setCell ⟨B, 1, none⟩ (.int .i64 (wrap64 (T.used + (C : Int))))) { gk with rb := upd gk.rb i (Value.slice a' C c').ownBlock }) := by
          refine HT.out.next HX.out ?_ (F8.out.set (p := ⟨B, 1, none⟩) (fun _ => .inl rfl) _) HG4.out rfl
          have h1 := R8.out.use (wrap64 (T.used + (C : Int))) (wrap_range _).1 (wrap_range _).2
          rw [HTI1.out, HT1'.out]
          exact h1
        have HTI2 : Hid (T1.i = ti + 1) := by show _ = _; rw [HT1'.out]
        clear hK K k1 k2 hb8 hw8 R8 F8 R4 F4 HG4 e0 e1
        go_wp2_with fail
        go_roundg (M - (k + 1))
        case measure => omega
        case rel => exact ⟨k + 1, _, by omega, Nat.le_refl _, by first | rfl | go_num, by rw [HT1.out, HTI2.out]; first | rfl | go_num, R9.out⟩
      · have hsz : f.safe = f.bytes.length := by omega
        have HT1' : Hid (T1 = ⟨upd T.F i { f with safe := f.bytes.length }, wrap64 (T.used + (f.bytes.length : Int)), ti⟩) := by
          show _ = _
          rw [HTS2.out, if_neg hsf]
        have hw1 : IntKind.i64.wrap ((f.bytes.length : Int) - (f.safe : Int)) = 0 := by rw [hsz, Int.sub_self]; rfl
        clear HTS2 hcf2
        rw [hsz] at g1 hw1
        have RK := Lib.hid (show Rep wr B { S with F := T.F, d := { S.d with used := T.used } } gk from by have := HT.out.rep; rw [HTI.out] at this; exact this)
        have HNB : Hid (∀ w8, Below wr.heap.size wr w8 → Rep (w8.setCell ⟨b, 1, none⟩ (.int .i64 (f.bytes.length : Int))) B { S with F := upd T.F i { f with safe := f.bytes.length }, d := { S.d with used := T.used } } { gk with rb := upd gk.rb i (gk.rb i) }) := fun w8 hb => by
          have h1 := (RK.out.later hb).safe' HB.out.1 f.bytes.length (by show f.bytes.length ≤ (T.F i).bytes.length; rw [HF.out]; exact Nat.le_refl _)
          have e : ({ T.F i with safe := f.bytes.length } : Fl) = { f with safe := f.bytes.length } := by rw [HF.out]
          simp only at h1
          rw [e] at h1
          exact h1
        have g1f : wr.frozen? ⟨b, 1, none⟩ = false := by
          obtain ⟨_, hb⟩ := (RK.out.files b i HB.out.1).block
          exact unfrozen_of_block hb 1
        obtain ⟨n, hn⟩ : ∃ n, f.bytes.length = n := ⟨_, rfl⟩
        rw [hn] at g0 g1 fz HNB HT1' hw1
        clear hsf hsz fs
        have HBz : B < wr.heap.size := RK.out.at'.lt
        have Hbz : b < wr.heap.size := World.block_lt_of_cell? wr _ g0
        go_wp2_with fail
        go_quiet (fail)
        go_upto_region 12 with fail
        have hbd : Below wr.heap.size wr (wr.drewN nq) := ⟨rfl, rfl, rfl, Nat.le_refl _, fun _ _ => rfl⟩
        have R4 := Lib.hid (HNB.out _ hbd)
        have F4 : Hid (Fr (Foot B gk) wr ((wr.drewN nq).setCell ⟨b, 1, none⟩ (.int .i64 (n : Int)))) := Fr.set (X := Foot B gk) (Fr.of_below hbd) (p := ⟨b, 1, none⟩) (fun _ => .inr (.inr (.inr (.inr (.inl ⟨i, HB.out.1⟩))))) _
        have HG4 : Hid (∀ j, Foot B { gk with rb := upd gk.rb i (gk.rb i) } j → Foot B gk j ∨ wr.heap.size ≤ j) := fun j hj => .inl (foot_same HB.out.1 hj)
        have hlen : ((upd T.F i { f with safe := n }) i).bytes.length = n := by rw [upd_same]; exact hn
        clear hn
        generalize (wr.drewN nq).setCell ⟨b, 1, none⟩ (.int .i64 (n : Int)) = w4 at *
        clear hbd g0 g1 g1f HNB RK
        have c1 : w4.cell? ⟨B, 1, none⟩ = some (.int .i64 T.used) := by rw [R4.out.at'.cell]; simp [Dk.cells, Gh.on]
        obtain ⟨_, _, _, v4, _, o4, b4⟩ : FileAt w4 b _ ((upd T.F i { f with safe := n }) i) := R4.out.files b i HB.out.1
        obtain ⟨a4, c4, rfl, -, -⟩ := own_shape o4
        rw [hlen] at b4
        have c0' : w4.cell? ⟨b, 0, none⟩ = some (.slice a4 n c4) := by rw [cell_of_row w4 b 0 _ _ (0, 0) b4]; rfl
        have e1 := cell_up c1
        have e0 := cell_up c0'
        clear c1 c0' o4 b4 hlen
        refine growT_begin 12 (by kernel_rfl) ?_
        refine growT_take (by kernel_rfl) [0, 1, 2, 3, 4, 5, 6, 7, 8, 9, 10, 11] 1 _ _ (by kernel_rfl) ?_
        simp only [opsAt, List.getElem?_toArray, List.getElem?_cons_succ, List.getElem?_cons_zero]
        repeat (first | go_big_quiet_step (fail) | quiet_step (fail))
        refine wpQuiet_nil ?_
        intro w8 hw8
        have hb8 := below_of_up hw8
        have R8 := Lib.hid (R4.out.later hb8)
        have k1 : w8.cell? ⟨B, 1, none⟩ = some (.int .i64 T.used) := by rw [R8.out.at'.cell]; simp [Dk.cells, Gh.on]
        have k2 := R8.out.at'.loose 1
        have F8 := Lib.hid (F4.out.later hb8)
        refine growT_last (by kernel_rfl) (by kernel_rfl) (fun K hK => ?_)
        simp only [stepOf, List.getElem?_toArray, List.getElem?_cons_succ, List.getElem?_cons_zero]
        go_simp
        refine hK.out _ _ ?_
        have R9 : Hid (TrAt w w2 B S g ks (.slice (some ⟨r0, 0, none⟩) M c0) (k + 1) (w8.setCell ⟨B, 1, none⟩ (.int .i64 (wrap64 (T.used + (n : Int))))) { gk with rb := upd gk.rb i (gk.rb i) }) := by
          refine HT.out.next HX.out ?_ (F8.out.set (p := ⟨B, 1, none⟩) (fun _ => .inl rfl) _) HG4.out rfl
          have h1 := R8.out.use (wrap64 (T.used + (n : Int))) (wrap_range _).1 (wrap_range _).2
          rw [HTI1.out, HT1'.out]
          exact h1
        have HTI2 : Hid (T1.i = ti) := by show _ = _; rw [HT1'.out]
        clear hK K k1 k2 hb8 hw8 R8 F8 R4 F4 HG4 e0 e1
        go_wp2_with fail
        go_roundg (M - (k + 1))
        case measure => omega
        case rel => exact ⟨k + 1, _, by omega, Nat.le_refl _, by first | rfl | go_num, by rw [HT1.out, HTI2.out], R9.out⟩
    · obtain rfl : k = M := by omega
      have hltz : ¬ (k : Int) < (k : Int) := by omega
      have HP : Hid (Did B (trimS ks S) g w wr) := by
        have h1 := HT.out.rep
        rw [show trS ks S k = trimS ks S by unfold trS trimS; rw [HM.out]] at h1
        exact ⟨gk, h1, HT.out.fr, fun j hj => (HT.out.foot j hj).imp id fun e => Nat.le_trans HX.out.le e⟩
      clear HT
      go_wp2_with fail
      go_end0
      exact ⟨rfl, HP.out⟩
end Go.Proofs.Ytoiggdcgfbjhpaa
