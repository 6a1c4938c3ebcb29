/-
  What acts leave true of a disk's account.
-/
import Derived.Test.YtoiggdcgfbjhpaaDskCo
namespace Go.Proofs.Ytoiggdcgfbjhpaa
open Go.ChangeShapes Go.WideShapes Go.ChangeAt Go.RowKit Go.Joins
set_option linter.unusedVariables false

theorem Inv.core {S : St} (h : Inv S) (d : Dk) : Inv { S with d := d } := ⟨h.ch, h.num, h.made, h.apart, h.each, h.len, h.bytes, h.safe, h.byte⟩
/-- A change of names that waits more. -/
theorem Inv.turn {S : St} (h : Inv S) (c : Chg) (hm : c.made = -1) (hs : ∃ i, At S.Dn c.src i) : Inv (turnS c S) := by
  refine ⟨h.ch.snoc (fun _ => hs) (.inl hm), h.num, fun x hx => ?_, fun x hx i e => ?_, ?_, ?_, h.bytes, h.safe, h.byte⟩
  · rcases List.mem_append.1 hx with hx | hx
    · exact h.made x hx
    · rw [List.mem_singleton.1 hx]; exact .inl hm
  · rcases List.mem_append.1 hx with hx | hx
    · exact h.apart x hx i e
    · rw [List.mem_singleton.1 hx, hm] at e; omega
  · refine List.pairwise_append.2 ⟨h.each, List.pairwise_singleton _ _, fun a ha b hb => ?_⟩
    rw [List.mem_singleton.1 hb, hm]
    by_cases e : a.made = -1
    · exact .inl e
    · exact .inr e
  · show (S.l ++ [c]).length ≤ S.steps + 1
    have := h.len
    rw [List.length_append]
    simp
    omega
/-- A file made. -/
theorem Inv.create {S : St} (h : Inv S) (s : ByteArray) : Inv (turnS ⟨(S.next : Int), ⟨#[]⟩, s⟩ (newS S)) := by
  have hno : ∀ t, ¬ At S.Dn t S.next := fun t ht => by have := h.numn ht; omega
  refine ⟨h.ch.snoc (fun e => ?_) (.inr ⟨S.next, rfl, hno⟩), fun t i ht => ?_, fun x hx => ?_, fun x hx i e => ?_, ?_, ?_, fun i => ?_, fun i => ?_, fun i => ?_⟩
  · have e : (S.next : Int) = -1 := e
    omega
  · have := h.num t i ht
    show i < S.next + 1
    omega
  · show x.made = -1 ∨ ∃ i : Nat, x.made = i ∧ i < S.next + 1
    rcases List.mem_append.1 hx with hx | hx
    · rcases h.made x hx with e | ⟨i, e, h2⟩
      · exact .inl e
      · exact .inr ⟨i, e, by omega⟩
    · rw [List.mem_singleton.1 hx]; exact .inr ⟨S.next, rfl, by omega⟩
  · rcases List.mem_append.1 hx with hx | hx
    · exact h.apart x hx i e
    · rw [List.mem_singleton.1 hx] at e
      have e : (S.next : Int) = i := e
      intro t ht
      have := h.num t i ht
      omega
  · refine List.pairwise_append.2 ⟨h.each, List.pairwise_singleton _ _, fun a ha b hb => ?_⟩
    rw [List.mem_singleton.1 hb]
    rcases h.made a ha with e | ⟨i, e, h2⟩
    · exact .inl e
    · refine .inr fun e2 => ?_
      have e2 : a.made = (S.next : Int) := e2
      omega
  · show (S.l ++ [_]).length ≤ S.steps + 1
    have := h.len
    rw [List.length_append]
    simp
    omega
  · show (upd S.F S.next ⟨[], 0⟩ i).bytes.length ≤ S.tot
    unfold upd
    split
    · exact Nat.zero_le _
    · exact h.bytes i
  · show (upd S.F S.next ⟨[], 0⟩ i).safe ≤ (upd S.F S.next ⟨[], 0⟩ i).bytes.length
    unfold upd
    split
    · exact Nat.le_refl _
    · exact h.safe i
  · show ∀ n ∈ (upd S.F S.next ⟨[], 0⟩ i).bytes, n < 256
    unfold upd
    split
    · intro n hn; cases hn
    · exact h.byte i
theorem Inv.settle {S : St} (h : Inv S) (N : Nat) : Inv (settleS N S) := by
  refine ⟨.nil (h.ch.take N), fun t i ht => ?_, fun c hc => (by cases hc), fun c hc => (by cases hc), List.Pairwise.nil, Nat.zero_le _, h.bytes, h.safe, h.byte⟩
  rcases h.ch.from N t i ht with ⟨u, hu⟩ | ⟨c, hc, e⟩
  · exact h.num u i hu
  · rcases h.made c hc with e2 | ⟨j, e2, h2⟩
    · rw [e2] at e; omega
    · rw [e2] at e
      show i < S.next
      omega
/-- Files turned. -/
theorem Inv.files {S : St} (h : Inv S) (F : Nat → Fl) (d : Dk) (t : Nat) (h1 : ∀ i, (F i).bytes.length ≤ t) (h2 : ∀ i, (F i).safe ≤ (F i).bytes.length) (h3 : ∀ i, ∀ n ∈ (F i).bytes, n < 256) : Inv { S with F := F, d := d, tot := t } :=
  ⟨h.ch, h.num, h.made, h.apart, h.each, h.len, h1, h2, h3⟩
def FOk (t : Nat) (F : Nat → Fl) : Prop := ∀ i, (F i).bytes.length ≤ t ∧ (F i).safe ≤ (F i).bytes.length ∧ ∀ n ∈ (F i).bytes, n < 256
theorem Inv.fok {S : St} (h : Inv S) : FOk S.tot S.F := fun i => ⟨h.bytes i, h.safe i, h.byte i⟩
theorem FOk.upd {t : Nat} {F : Nat → Fl} (h : FOk t F) (i : Nat) (f : Fl) (hf : f.bytes.length ≤ t ∧ f.safe ≤ f.bytes.length ∧ ∀ n ∈ f.bytes, n < 256) : FOk t (upd F i f) := fun j => by
  unfold Go.Proofs.Ytoiggdcgfbjhpaa.upd
  split
  · exact hf
  · exact h j
theorem Inv.fok' {S : St} (h : Inv S) {F : Nat → Fl} {t : Nat} (hF : FOk t F) (d : Dk) : Inv { S with F := F, d := d, tot := t } :=
  h.files F d t (fun i => (hF i).1) (fun i => (hF i).2.1) (fun i => (hF i).2.2)
theorem trim_fok {t : Nat} {F : Nat → Fl} (h : FOk t F) (ks : List Int) (D : DM) : ∀ k, k ≤ (namesD D).length → FOk t (trimTo ks D F k).F
  | 0, _ => h
  | k + 1, hk => by
    have ih := trim_fok h ks D k (by omega)
    rw [trimTo_succ (by omega)]
    unfold trimStep
    simp only
    split
    · rename_i hl
      obtain ⟨a1, a2, a3⟩ := ih (numD D ⟨(namesD D)[k].toArray⟩).toNat
      have hc := cut_range (ks := ks) (i := (trimTo ks D F k).i) a2
      refine ih.upd _ _ ⟨?_, ?_, fun n hn => a3 n (List.mem_of_mem_take hn)⟩
      · rw [List.length_take]; omega
      · rw [List.length_take]
        exact Nat.le_min.2 ⟨Nat.le_refl _, hc.2.1⟩
    · obtain ⟨a1, a2, a3⟩ := ih (numD D ⟨(namesD D)[k].toArray⟩).toNat
      exact ih.upd _ _ ⟨a1, Nat.le_refl _, a3⟩
theorem Inv.trim {S : St} (h : Inv S) (ks : List Int) : Inv (trimS ks S) := h.fok' (trim_fok h.fok ks S.Dn _ (Nat.le_refl _)) _
theorem Inv.restart {S : St} (h : Inv S) (n : Int) (ks : List Int) : Inv (restartS n ks S) := ((h.settle _).trim ks).core _
theorem Inv.sync {S : St} (h : Inv S) (s : ByteArray) : Inv (syncS s S).2 := by
  unfold syncS
  split
  · exact h
  · split
    · exact h
    · split
      · have h1 := h.fok (numD S.Dn s).toNat
        exact h.fok' (h.fok.upd _ (syncF (S.F (numD S.Dn s).toNat)) ⟨h1.1, Nat.le_refl _, h1.2.2⟩) _
      · exact h.core _
theorem Inv.grow {S : St} (h : Inv S) (i : Nat) (m : List Nat) (hm : ∀ n ∈ m, n < 256) : Inv (growS i m S) := by
  have hF : FOk (S.tot + m.length) S.F := fun j => ⟨by have := h.bytes j; omega, h.safe j, h.byte j⟩
  have h1 := h.fok i
  refine h.fok' (hF.upd i (growF (S.F i) m) ⟨?_, ?_, fun n hn => ?_⟩) _
  · show ((S.F i).bytes ++ m).length ≤ _
    rw [List.length_append]; omega
  · show (S.F i).safe ≤ ((S.F i).bytes ++ m).length
    rw [List.length_append]; omega
  · rcases List.mem_append.1 hn with hn | hn
    · exact h1.2.2 n hn
    · exact hm n hn
theorem Inv.append {S : St} (h : Inv S) (s : ByteArray) (m : List Nat) (hm : ∀ n ∈ m, n < 256) : Inv (appendS s m S).2 ∧ (appendS s m S).2.steps = S.steps ∧ (appendS s m S).2.tot ≤ S.tot + m.length := by
  unfold appendS
  split
  · exact ⟨h, rfl, by simp⟩
  · split
    · exact ⟨h, rfl, by simp⟩
    · split
      · exact ⟨h, rfl, by simp⟩
      · split
        · exact ⟨h.core _, rfl, by simp [passS]⟩
        · refine ⟨(h.core (passD S.d).2).grow _ _ ?_, rfl, ?_⟩
          · split
            · intro n hn; exact hm n (List.mem_of_mem_take hn)
            · exact hm
          · show S.tot + _ ≤ _
            split
            · rw [List.length_take]; omega
            · exact Nat.le_refl _
theorem Inv.create' {S : St} (h : Inv S) (s : ByteArray) : Inv (createS s S).2 ∧ (createS s S).2.steps ≤ S.steps + 1 ∧ (createS s S).2.tot = S.tot := by
  unfold createS
  split
  · exact ⟨h, Nat.le_succ _, rfl⟩
  · split
    · exact ⟨h, Nat.le_succ _, rfl⟩
    · split
      · exact ⟨h, Nat.le_succ _, rfl⟩
      · split
        · exact ⟨(h.core (passD S.d).2).create s, Nat.le_refl _, rfl⟩
        · exact ⟨h.core _, Nat.le_succ _, rfl⟩
theorem Inv.rename {S : St} (h : Inv S) (s t : ByteArray) : Inv (renameS s t S).2 ∧ (renameS s t S).2.steps ≤ S.steps + 1 ∧ (renameS s t S).2.tot = S.tot := by
  unfold renameS
  split
  · exact ⟨h, Nat.le_succ _, rfl⟩
  · split
    · exact ⟨h, Nat.le_succ _, rfl⟩
    · split
      · exact ⟨h, Nat.le_succ _, rfl⟩
      · split
        · rename_i hn _
          refine ⟨(h.core (passD S.d).2).turn ⟨-1, s, t⟩ rfl ?_, Nat.le_refl _, rfl⟩
          rcases h.okn.num_or s with e | ⟨i, _, hi⟩
          · exact absurd e hn
          · exact ⟨i, hi⟩
        · exact ⟨h.core _, Nat.le_succ _, rfl⟩
theorem Inv.remove {S : St} (h : Inv S) (s : ByteArray) : Inv (removeS s S).2 ∧ (removeS s S).2.steps ≤ S.steps + 1 ∧ (removeS s S).2.tot = S.tot := by
  unfold removeS
  split
  · exact ⟨h, Nat.le_succ _, rfl⟩
  · split
    · exact ⟨h, Nat.le_succ _, rfl⟩
    · split
      · rename_i hn _
        refine ⟨(h.core (passD S.d).2).turn ⟨-1, s, ⟨#[]⟩⟩ rfl ?_, Nat.le_refl _, rfl⟩
        rcases h.okn.num_or s with e | ⟨i, _, hi⟩
        · exact absurd e hn
        · exact ⟨i, hi⟩
      · exact ⟨h.core _, Nat.le_succ _, rfl⟩
theorem Inv.flush {S : St} (h : Inv S) : Inv (flushS S).2 ∧ (flushS S).2.steps = S.steps ∧ (flushS S).2.tot = S.tot := by
  unfold flushS
  split
  · exact ⟨h, rfl, rfl⟩
  · split
    · exact ⟨(h.core (passD S.d).2).settle _, rfl, rfl⟩
    · exact ⟨h.core _, rfl, rfl⟩
theorem Inv.read {S : St} (h : Inv S) (s : ByteArray) : Inv (readS s S).2 ∧ (readS s S).2.steps = S.steps ∧ (readS s S).2.tot = S.tot := by
  unfold readS
  split
  · exact ⟨h, rfl, rfl⟩
  · split
    · exact ⟨h, rfl, rfl⟩
    · split <;> exact ⟨h.core _, rfl, rfl⟩
theorem Inv.sync' {S : St} (h : Inv S) (s : ByteArray) : Inv (syncS s S).2 ∧ (syncS s S).2.steps = S.steps ∧ (syncS s S).2.tot = S.tot := by
  refine ⟨h.sync s, ?_, ?_⟩ <;>
  · unfold syncS
    split
    · rfl
    · split
      · rfl
      · split <;> rfl

/-- An act: what is to be done. -/
structure ActA where
  kind : Nat
  a : ByteArray
  b : ByteArray
  n : Int
  data : List Nat
  ks : List Int
def fuseS (n : Int) (S : St) : Int × St := (if S.d.lost then 6 else if n < 0 then 1 else 0, { S with d := if S.d.lost then S.d else if n < 0 then S.d else { S.d with fs := true, fl := n } })
def faltS (n : Int) (S : St) : Int × St := (if S.d.lost then 6 else if n < 0 then 1 else 0, { S with d := if S.d.lost then S.d else if n < 0 then S.d else { S.d with gs := true, gl := n } })
def doS (x : ActA) (S : St) : Int × St :=
  match x.kind with
  | 0 => createS x.a S
  | 1 => appendS x.a x.data S
  | 2 => renameS x.a x.b S
  | 3 => removeS x.a S
  | 4 => syncS x.a S
  | 5 => flushS S
  | 6 => readS x.a S
  | 7 => fuseS x.n S
  | 8 => faltS x.n S
  | _ => (0, restartS x.n x.ks S)
theorem Inv.doS {S : St} (h : Inv S) (x : ActA) (hx : ∀ n ∈ x.data, n < 256) : Inv (doS x S).2 ∧ (doS x S).2.steps ≤ S.steps + 1 ∧ (doS x S).2.tot ≤ S.tot + x.data.length := by
  unfold Go.Proofs.Ytoiggdcgfbjhpaa.doS
  split
  · have := h.create' x.a; exact ⟨this.1, this.2.1, by omega⟩
  · have := h.append x.a x.data hx; exact ⟨this.1, by omega, this.2.2⟩
  · have := h.rename x.a x.b; exact ⟨this.1, this.2.1, by omega⟩
  · have := h.remove x.a; exact ⟨this.1, this.2.1, by omega⟩
  · have := h.sync' x.a; exact ⟨this.1, by omega, by omega⟩
  · have := h.flush; exact ⟨this.1, by omega, by omega⟩
  · have := h.read x.a; exact ⟨this.1, by omega, by omega⟩
  · exact ⟨h.core _, Nat.le_succ _, Nat.le_add_right _ _⟩
  · exact ⟨h.core _, Nat.le_succ _, Nat.le_add_right _ _⟩
  · exact ⟨h.restart _ _, Nat.le_succ _, Nat.le_add_right _ _⟩

/-! Behind a restart. -/
def SafeF (D : DM) (F : Nat → Fl) (k : Nat) : Prop := ∀ j, ∀ h : j < (namesD D).length, j < k → (F (numD D ⟨(namesD D)[j].toArray⟩).toNat).safe = (F (numD D ⟨(namesD D)[j].toArray⟩).toNat).bytes.length
theorem trimStep_safe {t : Nat} {ks : List Int} {D : DM} {T : TrS} (hT : FOk t T.F) (s : List UInt8) : ((trimStep ks D T s).F (numD D ⟨s.toArray⟩).toNat).safe = ((trimStep ks D T s).F (numD D ⟨s.toArray⟩).toNat).bytes.length ∧ ∀ i, (T.F i).safe = (T.F i).bytes.length → ((trimStep ks D T s).F i).safe = ((trimStep ks D T s).F i).bytes.length := by
  have key : ((trimStep ks D T s).F (numD D ⟨s.toArray⟩).toNat).safe = ((trimStep ks D T s).F (numD D ⟨s.toArray⟩).toNat).bytes.length := by
    unfold trimStep
    simp only
    split
    · rename_i hl
      have hc := cut_range (ks := ks) (i := T.i) (hT (numD D ⟨s.toArray⟩).toNat).2.1
      simp only [upd_same]
      rw [List.length_take]
      omega
    · simp only [upd_same]
  refine ⟨key, fun i hi => ?_⟩
  by_cases e : i = (numD D ⟨s.toArray⟩).toNat
  · rw [e]; exact key
  · unfold trimStep
    simp only
    split <;> (simp only [upd_other _ _ e]; exact hi)
theorem trim_safe {t : Nat} {F : Nat → Fl} (h : FOk t F) (ks : List Int) (D : DM) : ∀ k, k ≤ (namesD D).length → SafeF D (trimTo ks D F k).F k
  | 0, _ => fun j _ hj => by omega
  | k + 1, hk => by
    have ih := trim_safe h ks D k (by omega)
    have hT := trim_fok h ks D k (by omega)
    rw [trimTo_succ (by omega)]
    obtain ⟨h1, h2⟩ := trimStep_safe (ks := ks) (D := D) hT (namesD D)[k]
    intro j hj hjk
    by_cases e : j = k
    · subst e; exact h1
    · exact h2 _ (ih j hj (by omega))
theorem upd_self {α : Type} (f : Nat → α) (i : Nat) : upd f i (f i) = f := by
  funext j
  unfold upd
  split
  · rename_i h; rw [h]
  · rfl
theorem trim_same {F : Nat → Fl} (ks : List Int) (D : DM) (h : SafeF D F (namesD D).length) : ∀ k, k ≤ (namesD D).length → (trimTo ks D F k).F = F
  | 0, _ => rfl
  | k + 1, hk => by
    have ih := trim_same ks D h k (by omega)
    rw [trimTo_succ (by omega)]
    have hs := h k (by omega) (by omega)
    unfold trimStep
    simp only [ih]
    rw [if_neg (by omega)]
    show upd F _ { F _ with safe := _ } = F
    have e : ({ F (numD D ⟨(namesD D)[k].toArray⟩).toNat with safe := (F (numD D ⟨(namesD D)[k].toArray⟩).toNat).bytes.length } : Fl) = F (numD D ⟨(namesD D)[k].toArray⟩).toNat := by
      rw [← hs]
    rw [e]
    exact upd_self _ _
theorem restart_facts {S : St} (h : Inv S) (n : Int) (ks : List Int) : (restartS n ks S).l = [] ∧ (restartS n ks S).d.lost = false ∧ (restartS n ks S).d.gs = false ∧ SafeF (restartS n ks S).Dn (restartS n ks S).F (namesD (restartS n ks S).Dn).length ∧ (restartS n ks S).steps = S.steps := by
  refine ⟨rfl, rfl, rfl, ?_, rfl⟩
  exact trim_safe (h.settle (keepN n S)).fok ks (settleS (keepN n S) S).Dn _ (Nat.le_refl _)
theorem restart_twice {S : St} (hl : S.l = []) (hs : SafeF S.Dn S.F (namesD S.Dn).length) (n : Int) (ks : List Int) : (restartS n ks S).Dn = S.Dn ∧ (restartS n ks S).F = S.F := by
  have e1 : (settleS (keepN n S) S).Dn = S.Dn := by
    unfold St.Dn settleS
    rw [hl]
    simp [didAll]
  refine ⟨e1, ?_⟩
  show (trimTo ks (settleS (keepN n S) S).Dn S.F (namesD (settleS (keepN n S) S).Dn).length).F = S.F
  rw [e1]
  exact trim_same ks S.Dn hs _ (Nat.le_refl _)
end Go.Proofs.Ytoiggdcgfbjhpaa
