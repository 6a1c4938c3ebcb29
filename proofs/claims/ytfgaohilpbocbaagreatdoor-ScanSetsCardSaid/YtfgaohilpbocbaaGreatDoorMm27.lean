/-
  A store that is handed in.
  A map from a set's name to the packets that have it: its look-ups, its entries, in memory.
  BYNAME: the packets of each name, in a map.
  PACKETS: all packets in the files, in order.
-/
import Derived.Test.YtfgaohilpbocbaaGreatDoorMm26
import Derived.Maps.Keyed
import Derived.WideKeyEntry
section
namespace Go.Proofs.YtfgaohilpbocbaaGreatDoor
open Go.ChangeShapes Go.WideShapes Go.ChangeAt Go.RowKit Go.Joins
set_option linter.unusedVariables false

section
variable {H : Type} {enc : TypeId × Value → H} {w : World} {base : Nat} {held : Bool}
theorem cells1S : Tryz.prog.cellsOf 9 = 1 := by kernel_rfl
theorem cells1B : Tryz.prog.cellsOf 53 = 1 := by kernel_rfl
theorem cellsSt : Tryz.prog.cellsOf 34 = 2 := by kernel_rfl
instance lnat_some : Inhabited (List Nat) := ⟨[]⟩
set_option maxRecDepth 100000 in
theorem names_in {fuel : Nat} {c : Value} {x : DataW H × List MemPlace} (h : DataW.trod enc Tryz.prog w base (fun _ => true) held fuel 32 [c] = some x) (hw : ∀ n ∈ DataW.weights Tryz.prog 32 x.1, n ≤ reachBytes) :
    ∃ a cap L, c = .slice a (L : List (List Nat)).length cap ∧ Strs w a cap L := by
  rcases DataW.trod_slice Tryz.underlying32 h with ⟨hcs, hx⟩ | ⟨a, len, cap, elems, rest, n, _, hcs, hx, hb, hl, hm, hlen, hel, _, _⟩
  · simp only [List.cons.injEq, and_true] at hcs
    exact ⟨none, 0, [], hcs, ⟨Nat.le_refl _, by unfold maxLen; omega, fun x hx => (by cases hx), fun _ => rfl, .inl rfl⟩⟩
  · simp only [List.cons.injEq, and_true] at hcs
    obtain ⟨f, hf⟩ := Go.Deep.choose_lt (α := List Nat) (p := fun i v => (IsByte v ∧ v.length ≤ 140737488355328) ∧ w.cell? ((a.add (i * 1)).add 0) = some (.string (strOf v))) (n := len) fun i hi => by
      have h1 := hel i hi
      rw [cells1S] at h1
      have hie : i < elems.length := by omega
      rw [List.getElem?_eq_getElem hie] at h1
      obtain ⟨cs, hcs1, hcs2⟩ := Option.bind_eq_some_iff.1 h1
      obtain ⟨s, e0, r0, _⟩ := DataW.trod_string Tryz.underlying9 hcs2
      subst e0
      obtain ⟨nm, rfl, hb, hl⟩ := str_of s
      obtain ⟨_, _, hc⟩ := World.cells?_some hcs1
      have h0 := hw (strOf nm).data.toList.length (by
        rw [hx]
        simp only [DataW.weights, Tryz.underlying32, List.mem_cons, List.mem_append]
        exact .inr (.inl (weights_mem (List.mem_map_of_mem (List.getElem_mem hie)) _ (by rw [r0]; simp [DataW.weights]))))
      have hr : reachBytes = 140737488351232 := rfl
      have h0s : (strOf nm).data.toList.length = nm.length := by rw [strOf_data, List.length_map]
      exact ⟨nm, ⟨hb, by omega⟩, hc 0 (by omega)⟩
    have hll : ((List.range len).map f).length = len := by simp
    refine ⟨some a, cap, (List.range len).map f, by rw [hll]; exact hcs, ⟨by rw [hll]; exact hl, hm, fun x hx => ?_, fun e => (by cases e), ?_⟩⟩
    · obtain ⟨i, hi, rfl⟩ := List.mem_map.1 hx
      exact (hf i (List.mem_range.1 hi)).1
    · by_cases h0 : len = 0
      · exact .inl (List.length_eq_zero_iff.1 (by rw [hll]; exact h0))
      · obtain ⟨b, off, spot⟩ := a
        obtain ⟨_, hc0⟩ := hf 0 (by omega)
        have hc0' : w.cell? (⟨b, off, spot⟩ : Addr) = some (.string (strOf (f 0))) := by simpa [Addr.add] using hc0
        have hspot : spot = none := World.cell?_spot hc0'
        subst hspot
        refine .inr ⟨b, off, rfl, World.block_lt_of_cell? w _ hc0', fun i hi => ?_⟩
        have hi2 : i < len := by rw [hll] at hi; exact hi
        have hgi : ((List.range len).map f)[i] = f i := by simp
        rw [hgi]
        obtain ⟨_, e0⟩ := hf i hi2
        rw [addr_add, addr_add, show off + i * 1 + 0 = off + i by omega] at e0
        exact e0
set_option maxRecDepth 100000 in
theorem rowsS_in {fuel : Nat} {c : Value} {x : DataW H × List MemPlace} (h : DataW.trod enc Tryz.prog w base (fun _ => true) held fuel 31 [c] = some x) (hw : ∀ n ∈ DataW.weights Tryz.prog 31 x.1, n ≤ reachBytes) :
    ∃ a cap L, c = .slice a (L : Rws).length cap ∧ Rs w.heap.size w a cap L ∧ ∀ x ∈ L, x.length ≤ 140737488355328 := by
  obtain ⟨a0, cap0, L, e0, hR⟩ := rows_in h
  refine ⟨a0, cap0, L, e0, hR, fun y hy => ?_⟩
  obtain ⟨k, hk, rfl⟩ := List.getElem_of_mem hy
  obtain ⟨g, off, rfl, _, hrr⟩ := hR.some hk
  obtain ⟨ai, ci, hck, _⟩ := hrr k hk
  rcases DataW.trod_slice Tryz.underlying31 h with ⟨hcs, hx⟩ | ⟨a, len, cap, elems, rest, n, _, hcs, hx, hb, hl, hm, hlen, hel, _, _⟩
  · simp only [List.cons.injEq, and_true] at hcs
    rw [e0] at hcs
    injection hcs with h1
    cases h1
  · simp only [List.cons.injEq, and_true] at hcs
    rw [e0] at hcs
    injection hcs with h1 h2 h3
    injection h1 with h1
    have hi : k < len := by omega
    have h1' := hel k hi
    rw [cells1B] at h1'
    have hie : k < elems.length := by omega
    rw [List.getElem?_eq_getElem hie] at h1'
    obtain ⟨cs, hcs1, hcs2⟩ := Option.bind_eq_some_iff.1 h1'
    obtain ⟨_, hsz, hc⟩ := World.cells?_some hcs1
    have hcl : cs.length = 1 := by omega
    match cs, hcl with
    | [c0], _ =>
      obtain ⟨a', cap', l, e1, hs, W1⟩ := bytes_in2 hcs2
      subst e1
      have h5 := hc 0 (by omega)
      rw [← h1, addr_add, addr_add, show off + k * 1 + 0 = off + k by omega, hck] at h5
      have h6 := W1 fun q hq => hw q (by
        rw [hx]
        simp only [DataW.weights, Tryz.underlying31, List.mem_cons, List.mem_append]
        exact .inr (.inl (weights_mem (List.mem_map_of_mem (List.getElem_mem hie)) q hq)))
      have hr : reachBytes = 140737488351232 := rfl
      simp at h5
      omega
set_option maxRecDepth 100000 in
theorem store_arg {r : Reach} {b0 : Nat} {v : Value} {d : DataW H} {q : List MemPlace} (hv : Value.okWide Tryz.prog w r b0 34 v) (h : DataW.Trod enc Tryz.prog w base (fun _ => true) held 34 v d q) (hw : ∀ n ∈ DataW.weights Tryz.prog 34 d, n ≤ reachBytes) :
    ∃ na nc N ba bc R, v = storeV na (N : List (List Nat)).length nc ba (R : Rws).length bc ∧ Strs w na nc N ∧ Rs w.heap.size w ba bc R ∧ ∀ x ∈ R, x.length ≤ 140737488355328 := by
  obtain ⟨cs, rfl, hsz⟩ := okWide_struct Tryz.underlying34 hv
  obtain ⟨fuel, hf⟩ := h
  obtain ⟨xs, n, _, hy, hlen, hxl, hf⟩ := DataW.trod_struct Tryz.underlying34 hf
  rw [cellsSt] at hsz
  match xs, hxl with
  | [y0, y1], _ =>
    have f0 : DataW.trod enc Tryz.prog w base (fun _ => true) held n 32 ((cs.toList.drop 0).take 1) = some y0 := hf 0 _ rfl
    have f1 : DataW.trod enc Tryz.prog w base (fun _ => true) held n 31 ((cs.toList.drop 1).take 1) = some y1 := hf 1 _ rfl
    have hl2 : cs.toList.length = 2 := by rw [Array.length_toList]; exact hsz
    have one : ∀ off (ho : off < 2), (cs.toList.drop off).take 1 = [cs.toList[off]'(by omega)] := fun off ho => by
      rw [List.drop_eq_getElem_cons (by omega)]; rfl
    rw [one 0 (by omega)] at f0
    rw [one 1 (by omega)] at f1
    have hy1 : d = .agg [y0.1, y1.1] := by
      have := congrArg Prod.fst hy
      exact this
    have hww : DataW.weights Tryz.prog 34 d = DataW.weights Tryz.prog 32 y0.1 ++ (DataW.weights Tryz.prog 31 y1.1 ++ []) := by
      rw [hy1]
      simp [DataW.weights, DataW.weightsEach, Tryz.underlying34]
    rw [hww] at hw
    obtain ⟨na, nc, N, e1, hN⟩ := names_in f0 fun q hq => hw q (by simp [hq])
    obtain ⟨ba, bc, R, e2, hR, hl⟩ := rowsS_in f1 fun q hq => hw q (by simp [hq])
    refine ⟨na, nc, N, ba, bc, R, ?_, hN, hR, hl⟩
    unfold storeV
    congr 1
    apply Array.ext'
    refine List.ext_getElem (by rw [hl2]; rfl) fun i h1 h2 => ?_
    have hc : i = 0 ∨ i = 1 := by omega
    rcases hc with rfl | rfl
    · exact e1
    · exact e2
end
end Go.Proofs.YtfgaohilpbocbaaGreatDoor
end

section
namespace Go.Proofs.YtfgaohilpbocbaaGreatDoor
open Go.ChangeShapes Go.WideShapes Go.ChangeAt Go.RowKit Go.Joins Go.MapKept
open Go.ChangeMaps (modify_eq_set setBlock)
open Go.WideElems (Fit findIdx_born findIdx_arr modify_last set_self)
set_option linter.unusedVariables false
set_option linter.unusedSimpArgs false

def nmV (l : List Nat) : Value := .agg (rowArr 8 (vOf l))
def NmOk (l : List Nat) : Prop := l.length = 8 ∧ IsByte l
theorem nmV_inj {a b : List Nat} (ha : NmOk a) (hb : NmOk b) (h : nmV a = nmV b) : a = b := by
  refine List.ext_getElem (by rw [ha.1, hb.1]) fun j h1 h2 => ?_
  have hj : j < 8 := by have := ha.1; omega
  unfold nmV at h
  injection h with h
  have h3 : (rowArr 8 (vOf a))[j]? = (rowArr 8 (vOf b))[j]? := by rw [h]
  simp only [rowArr, List.getElem?_toArray, List.getElem?_map, List.getElem?_range hj, Option.map_some, Option.some.injEq] at h3
  rw [vOf_eq a j h1, vOf_eq b j h2] at h3
  injection h3 with _ h4
  omega
theorem nmLaw : WideMaps.KeyLaw Tryz.prog 64 := deep_law (m := 4) (by decide) (by kernel_rfl) (by kernel_rfl) (by kernel_rfl)
theorem list8 {l : List Nat} (h : l.length = 8) : ∃ a b c d e f g k, l = [a, b, c, d, e, f, g, k] := by
  match l, h with
  | [a, b, c, d, e, f, g, k], _ => exact ⟨a, b, c, d, e, f, g, k, rfl⟩
set_option maxRecDepth 100000 in
theorem nm_key {l : List Nat} (h : NmOk l) : ∃ q, keyOf Tryz.prog 64 (nmV l) = some q := by
  obtain ⟨h8, hb⟩ := h
  obtain ⟨x0, x1, x2, x3, x4, x5, x6, x7, rfl⟩ := list8 h8
  have hw : ∀ x ∈ [x0, x1, x2, x3, x4, x5, x6, x7], (Lit.int .u8 (x : Int)).wf = true := fun x hx => by
    have := hb x hx
    have m1 : IntKind.u8.min = 0 := by kernel_rfl
    have m2 : IntKind.u8.max = 255 := by kernel_rfl
    simp [Lit.wf]
    omega
  have q0 := hw x0 (by simp)
  have q1 := hw x1 (by simp)
  have q2 := hw x2 (by simp)
  have q3 := hw x3 (by simp)
  have q4 := hw x4 (by simp)
  have q5 := hw x5 (by simp)
  have q6 := hw x6 (by simp)
  have q7 := hw x7 (by simp)
  have hv : nmV [x0, x1, x2, x3, x4, x5, x6, x7] = .agg #[.int .u8 (x0 : Int), .int .u8 (x1 : Int), .int .u8 (x2 : Int), .int .u8 (x3 : Int), .int .u8 (x4 : Int), .int .u8 (x5 : Int), .int .u8 (x6 : Int), .int .u8 (x7 : Int)] := rfl
  rw [hv]
  have e1 : Tryz.prog.keyType 64 = true := by kernel_rfl
  have e2 : (Value.agg #[.int .u8 (x0 : Int), .int .u8 (x1 : Int), .int .u8 (x2 : Int), .int .u8 (x3 : Int), .int .u8 (x4 : Int), .int .u8 (x5 : Int), .int .u8 (x6 : Int), .int .u8 (x7 : Int)]).formed Tryz.prog 64 = true := by kernel_rfl
  have n0 : decide (0 < Tryz.prog.types.size) = true := by kernel_rfl
  have n1 := of_decide_eq_true n0
  obtain ⟨n, hn⟩ : ∃ n, Tryz.prog.types.size + 1 = n + 1 + 1 := ⟨Tryz.prog.types.size - 1, by omega⟩
  have u0 : Tryz.prog.underlying 5 = some (.int .u8) := Tryz.underlying5
  have c1 : Tryz.prog.cellsOf 5 = 1 := by kernel_rfl
  have c2 : Tryz.prog.cellsOf 64 = 8 := by kernel_rfl
  have hr : List.range 8 = [0, 1, 2, 3, 4, 5, 6, 7] := rfl
  unfold keyOf
  rw [Tryz.underlying64]
  simp only [e1, e2, Bool.and_self, if_true, hn]
  simp [Value.cells, Program.keyLits, Tryz.underlying64, u0, c1, c2, hr, q0, q1, q2, q3, q4, q5, q6, q7]

/-- A name, the value of its packets' slice, and these. -/
structure Gx where
  nm : List Nat
  v : Value
  l : List Pw
def entG (x : Gx) : Value × Value := (nmV x.nm, x.v)
def RT : Value → Option (DataW Unit × List MemPlace) := fun _ => some (.nil, [])
structure GrAt (W0 : Nat) (w : World) (b : Nat) (G : List Gx) : Prop where
  here : ∃ es clock, w.heap[b]? = some (.map es clock) ∧ (∀ x ∈ es.toList, x.born < clock) ∧ (es.toList.map (·.born)).Nodup ∧ es.toList.map (fun e => (e.key, e.val)) = G.map entG
  nms : ∀ x ∈ G, NmOk x.nm
  nd : (G.map (·.nm)).Nodup
  rows : ∀ x ∈ G, OwnP W0 w x.v x.l
  apart : ∀ i j (hi : i < G.length) (hj : j < G.length), i ≠ j → ∀ q, G[i].v.ownBlock = some q → G[j].v.ownBlock ≠ some q
theorem GrAt.new (w : World) : GrAt (w.heap.size + 1) (w.alloc (.map #[] 0)) w.heap.size [] :=
  ⟨⟨#[], 0, heap_alloc_last w _, fun x hx => by simp at hx, by simp, rfl⟩, fun x hx => (by cases hx), List.nodup_nil, fun x hx => (by cases hx), fun i j hi => (by simp at hi)⟩
theorem GrAt.lt {W0 : Nat} {w : World} {b : Nat} {G : List Gx} (h : GrAt W0 w b G) : b < w.heap.size := by
  obtain ⟨es, c, h1, _⟩ := h.here
  exact (Array.getElem?_eq_some_iff.1 h1).1
theorem OwnP.kindP {B : Nat} {w : World} {v : Value} {l : List Pw} (h : OwnP B w v l) {b : Nat} (hb : v.ownBlock = some b) : ∃ cs, w.heap[b]? = some (.cells cs 100 (0, 0)) := by
  rcases h.2 with ⟨rfl, _⟩ | ⟨g, cap, cur, rfl, hB, hh, _⟩
  · simp [Value.ownBlock] at hb
  · have : g = b := by simpa [Value.ownBlock] using hb
    subst this
    exact ⟨_, hh⟩
theorem OwnP.frP {B : Nat} {w w' : World} {v : Value} {l : List Pw} {X : Nat → Prop} (h : OwnP B w v l) (k : Fr X w w') (hX : ∀ b, v.ownBlock = some b → ¬ X b) : OwnP B w' v l := by
  refine ⟨h.1, ?_⟩
  rcases h.2 with h0 | ⟨g, cap, cur, e, hB, hh, r⟩
  · exact .inl h0
  · exact .inr ⟨g, cap, cur, e, hB, (k.block g (Array.getElem?_eq_some_iff.1 hh).1 (hX g (by rw [e]; rfl))).trans hh, r⟩
theorem GrAt.later {W0 : Nat} {w w' : World} {b : Nat} {G : List Gx} (h : GrAt W0 w b G) (k : Below w.heap.size w w') : GrAt W0 w' b G := by
  have hl := h.lt
  obtain ⟨es, c, h1, h2⟩ := h.here
  exact ⟨⟨es, c, (k.block b hl).trans h1, h2⟩, h.nms, h.nd, fun x hx => (h.rows x hx).kept k, h.apart⟩
theorem gr_keys {G : List Gx} {es : List MapEntry} (h : es.map (fun e => (e.key, e.val)) = G.map entG) (hr : ∀ x ∈ G, NmOk x.nm) : ∀ e ∈ es, ∃ l, keyOf Tryz.prog 64 e.key = some l := fun e he => by
  have h1 : (e.key, e.val) ∈ G.map entG := h ▸ List.mem_map.2 ⟨e, he, rfl⟩
  obtain ⟨x, hx, hxe⟩ := List.mem_map.1 h1
  have h2 : nmV x.nm = e.key := congrArg Prod.fst hxe
  rw [← h2]
  exact nm_key (hr x hx)
theorem gr_get {G : List Gx} {es : List MapEntry} (h : es.map (fun e => (e.key, e.val)) = G.map entG) {i : Nat} {e : MapEntry} (hi : es[i]? = some e) : ∃ x, G[i]? = some x ∧ e.key = nmV x.nm ∧ e.val = x.v := by
  have h1 : (es.map (fun e => (e.key, e.val)))[i]? = (G.map entG)[i]? := by rw [h]
  rw [List.getElem?_map, List.getElem?_map, hi] at h1
  cases hx : G[i]? with
  | none => rw [hx] at h1; cases h1
  | some x =>
    rw [hx] at h1
    have h2 := Option.some.inj h1
    exact ⟨x, rfl, congrArg Prod.fst h2, congrArg Prod.snd h2⟩
/-- m[name]. -/
theorem GrAt.look {W0 : Nat} {w : World} {b : Nat} {G : List Gx} (h : GrAt W0 w b G) {x : Gx} (hx : x ∈ G) :
    (Instr.lookup 103 (.map (some b)) (nmV x.nm) false).run Tryz.prog w = .ok x.v w := by
  obtain ⟨es, c, h1, _, _, h2⟩ := h.here
  obtain ⟨l, hl⟩ := nm_key (h.nms x hx)
  have hz : (zeroValue 60).run Tryz.prog w = .ok (.slice none 0 0) w := by kernel_rfl
  rcases nmLaw.find w hl es.toList (gr_keys h2 h.nms) with ⟨f1, f2⟩ | ⟨j, e0, f1, f2, f3⟩
  · exfalso
    have h3 : entG x ∈ es.toList.map (fun e => (e.key, e.val)) := h2 ▸ List.mem_map.2 ⟨x, hx, rfl⟩
    obtain ⟨y, hy, hye⟩ := List.mem_map.1 h3
    exact f2 y hy (congrArg Prod.fst hye)
  · obtain ⟨y, hy, e1, e2⟩ := gr_get h2 f2
    have hym := List.mem_of_getElem? hy
    have e3 : y.nm = x.nm := nmV_inj (h.nms y hym) (h.nms x hx) (e1.symm.trans f3)
    have e4 : y = x := by
      have hnd := h.nd
      obtain ⟨i, hi⟩ := List.getElem?_of_mem hx
      have h5 : (G.map (·.nm))[j]? = some x.nm := by rw [List.getElem?_map, hy]; simp [e3]
      have h6 : (G.map (·.nm))[i]? = some x.nm := by rw [List.getElem?_map, hi]; rfl
      have hij : j = i := by
        have hj := (List.getElem?_eq_some_iff.1 h5).1
        exact (List.getElem?_inj hj hnd).1 (h5.trans h6.symm)
      rw [hij, hi] at hy
      exact (Option.some.inj hy).symm
    simp [Instr.lookup, run_underlying Tryz.underlying103, MapKept.run_getObj_map h1, nmLaw.check w _ hl, f1, Result.andThen, e2, e4]
def StampAt (w : World) (b i st : Nat) : Prop := ∃ es clock e, w.heap[b]? = some (.map es clock) ∧ es.toList[i]? = some e ∧ e.born = st
theorem fr_block {w : World} {b : Nat} {o o' : Obj} (h : w.heap[b]? = some o) : Fr (fun j => j = b) w (setBlock w b o') :=
  ⟨rfl, rfl, rfl, by simp [setBlock], fun i hi hx => by simp [setBlock, Array.getElem?_setIfInBounds, Ne.symm hx]⟩
theorem block_set {w : World} {b : Nat} {o o' : Obj} (h : w.heap[b]? = some o) : (setBlock w b o').heap[b]? = some o' := by
  simp [setBlock, Array.getElem?_setIfInBounds, (Array.getElem?_eq_some_iff.1 h).1]
/-- m[name] = ..: its entry, ahead of the store. -/
theorem GrAt.entry {W0 : Nat} {w : World} {b : Nat} {G : List Gx} (h : GrAt W0 w b G) {nm : List Nat} (hn : NmOk nm) :
    ∃ (i : Nat) (x : Gx) (st : Nat) (G1 : List Gx) (w1 : World), ((G1 = G ∧ x ∈ G) ∨ ((∀ y ∈ G, y.nm ≠ nm) ∧ G1 = G ++ [⟨nm, .slice none 0 0, []⟩] ∧ x = ⟨nm, .slice none 0 0, []⟩)) ∧ G1[i]? = some x ∧ x.nm = nm ∧
      (Instr.mapEntry 103 (.map (some b)) (nmV nm)).run Tryz.prog w = .ok (.tuple #[x.v, goInt st]) w1 ∧ GrAt W0 w1 b G1 ∧ Fr (fun j => j = b) w w1 ∧ StampAt w1 b i st := by
  obtain ⟨es, c, h1, s1, s2, h2⟩ := h.here
  obtain ⟨l, hl⟩ := nm_key hn
  have hz : (zeroValue 60).run Tryz.prog w = .ok (.slice none 0 0) w := by kernel_rfl
  have hlen : es.size = G.length := by
    have := congrArg List.length h2
    simpa using this
  rcases nmLaw.find w hl es.toList (gr_keys h2 h.nms) with ⟨f1, f2⟩ | ⟨j, e0, f1, f2, f3⟩
  · have hno : ∀ y ∈ G, y.nm ≠ nm := fun y hy e => by
      have h3 : entG y ∈ es.toList.map (fun e => (e.key, e.val)) := h2 ▸ List.mem_map.2 ⟨y, hy, rfl⟩
      obtain ⟨z, hz, hze⟩ := List.mem_map.1 h3
      refine f2 z hz ?_
      have h4 : z.key = nmV y.nm := congrArg Prod.fst hze
      rw [h4, e]
    have hf := fr_block (o' := .map (es.push ⟨nmV nm, .slice none 0 0, c⟩) (c + 1)) h1
    have hb := block_set (o' := .map (es.push ⟨nmV nm, .slice none 0 0, c⟩) (c + 1)) h1
    refine ⟨G.length, ⟨nm, .slice none 0 0, []⟩, c, G ++ [⟨nm, .slice none 0 0, []⟩], setBlock w b (.map (es.push ⟨nmV nm, .slice none 0 0, c⟩) (c + 1)), .inr ⟨hno, rfl, rfl⟩, by simp, rfl, ?_, ⟨⟨_, _, hb, fun x hx => ?_, ?_, ?_⟩, fun x hx => ?_, ?_, fun x hx => ?_, fun i j hi hj hij q hq => ?_⟩, hf, ⟨_, _, ⟨nmV nm, .slice none 0 0, c⟩, hb, by rw [← hlen]; simp, rfl⟩⟩
    · simp [Instr.mapEntry, run_underlying Tryz.underlying103, MapKept.run_getObj_map h1, nmLaw.check w false hl, f1, hz, MapKept.run_setObj_map _ h1, Result.andThen, setBlock]
    · rw [Array.toList_push] at hx
      rcases List.mem_append.1 hx with hx | hx
      · have := s1 x hx; omega
      · rw [List.mem_singleton.1 hx]; exact Nat.lt_succ_self _
    · rw [Array.toList_push, List.map_append]
      refine List.nodup_append.2 ⟨s2, by simp, fun a ha d hd e1 => ?_⟩
      simp only [List.map_cons, List.map_nil, List.mem_singleton] at hd
      obtain ⟨x, hx, rfl⟩ := List.mem_map.1 ha
      have := s1 x hx
      omega
    · rw [Array.toList_push, List.map_append, List.map_append, h2]
      rfl
    · rcases List.mem_append.1 hx with hx | hx
      · exact h.nms x hx
      · rw [List.mem_singleton.1 hx]; exact hn
    · rw [List.map_append]
      refine List.nodup_append.2 ⟨h.nd, by simp, fun a ha d hd e1 => ?_⟩
      simp only [List.map_cons, List.map_nil, List.mem_singleton] at hd
      obtain ⟨x, hx, rfl⟩ := List.mem_map.1 ha
      exact hno x hx (e1.trans hd)
    · rcases List.mem_append.1 hx with hx | hx
      · refine (h.rows x hx).frP hf fun j hj hX => ?_
        obtain ⟨_, c1⟩ := (h.rows x hx).kindP hj
        rw [hX, h1] at c1
        cases c1
      · rw [List.mem_singleton.1 hx]; exact OwnP.nil _ _
    · by_cases ei : i < G.length
      · rw [List.getElem_append_left ei] at hq
        by_cases ej : j < G.length
        · rw [List.getElem_append_left ej]
          exact h.apart i j ei ej hij q hq
        · rw [List.getElem_append_right (by omega)]
          simp [Value.ownBlock]
      · rw [List.getElem_append_right (by omega)] at hq
        simp [Value.ownBlock] at hq
  · obtain ⟨y, hy, e1, e2⟩ := gr_get h2 f2
    have hym := List.mem_of_getElem? hy
    have e3 : y.nm = nm := nmV_inj (h.nms y hym) hn (e1.symm.trans f3)
    have hj : es[j]? = some e0 := by simpa using f2
    have hsame : es.modify j (fun e => { e with key := nmV nm }) = es := by
      apply Array.ext'
      rw [Array.toList_modify, modify_eq_set _ _ _ _ f2]
      have : ({ e0 with key := nmV nm } : MapEntry) = e0 := by rw [← f3]
      rw [this]
      exact set_self _ _ _ f2
    have hw : setBlock w b (.map es c) = w := by
      unfold setBlock
      have : w.heap.setIfInBounds b (.map es c) = w.heap := by
        apply Array.ext_getElem?
        intro i
        by_cases ei : b = i
        · subst ei
          simp [Array.getElem?_setIfInBounds, (Array.getElem?_eq_some_iff.1 h1).1]
          exact (Array.getElem?_eq_some_iff.1 h1).2.symm
        · simp [Array.getElem?_setIfInBounds, ei]
      rw [this]
    refine ⟨j, y, e0.born, G, w, .inl ⟨rfl, hym⟩, hy, e3, ?_, h, Fr.refl _ _, ⟨es, c, e0, h1, f2, rfl⟩⟩
    have hr : (Instr.mapEntry 103 (.map (some b)) (nmV nm)).run Tryz.prog w = .ok (.tuple #[e0.val, goInt e0.born]) (setBlock w b (.map es c)) := by
      simp [Instr.mapEntry, run_underlying Tryz.underlying103, MapKept.run_getObj_map h1, nmLaw.check w false hl, f1, hj, f3, nmLaw.stays w hl, hsame, MapKept.run_setObj_map _ h1, Result.andThen, setBlock]
    rw [hr, hw, e2]
/-- .. and the store. -/
theorem GrAt.store {W0 : Nat} {w1 w2 : World} {b i st : Nat} {G : List Gx} {x : Gx} {v' : Value} {l' : List Pw} (h : GrAt W0 w1 b G) (hi : G[i]? = some x) (hs : StampAt w1 b i st) (o : OwnP W0 w2 v' l') (g : w1.grownBy w2 x.v.ownBlock)
    (e : v'.ownBlock = x.v.ownBlock ∨ v'.ownBlock = some w1.heap.size) :
    ∃ w3, (Instr.entryStore 103 (.map (some b)) (goInt st) v').run Tryz.prog w2 = .ok () w3 ∧ GrAt W0 w3 b (G.set i ⟨x.nm, v', l'⟩) ∧ Fr (fun j => j = b) w2 w3 := by
  obtain ⟨es, c, h1, s1, s2, h2⟩ := h.here
  obtain ⟨es', c', e0, k1, k2, rfl⟩ := hs
  rw [h1] at k1
  cases k1
  have hxm := List.mem_of_getElem? hi
  have hf0 : Fr (fun j => x.v.ownBlock = some j) w1 w2 := Fr.of_grown g fun b hb => hb
  have hb2 : w2.heap[b]? = some (.map es c) := (hf0.block b h.lt fun hX => by
    obtain ⟨_, c1⟩ := (h.rows x hxm).kindP hX
    rw [h1] at c1
    cases c1).trans h1
  have hidx : es.findIdx? (fun e => ((e.born : Nat) : Int) == ((e0.born : Nat) : Int)) = some i := by
    rw [findIdx_arr]
    exact findIdx_born s2 k2
  have hf := fr_block (o' := .map (es.modify i fun e => { e with val := v' }) c) hb2
  have hb := block_set (o' := .map (es.modify i fun e => { e with val := v' }) c) hb2
  have hil : i < G.length := (List.getElem?_eq_some_iff.1 hi).1
  have hxi : G[i] = x := (List.getElem?_eq_some_iff.1 hi).2
  have hml : (es.modify i fun e => { e with val := v' }).toList = es.toList.set i { e0 with val := v' } := by
    rw [Array.toList_modify, modify_eq_set _ _ _ _ k2]
  have hnotb : ∀ j, v'.ownBlock = some j → ¬ j = b := fun j hj hX => by
    obtain ⟨_, c1⟩ := o.kindP hj
    rw [hX, hb2] at c1
    cases c1
  have hold : ∀ j (hj : j < G.length), j ≠ i → OwnP W0 w2 G[j].v G[j].l := fun j hj hne =>
    (h.rows _ (List.getElem_mem hj)).frP hf0 fun q hq hX => h.apart i j hil hj (Ne.symm hne) q (by rw [hxi]; exact hX) hq
  have hlt1 : ∀ j (hj : j < G.length) q, G[j].v.ownBlock = some q → q < w1.heap.size := fun j hj q hq => ((h.rows _ (List.getElem_mem hj)).at hq).2
  refine ⟨setBlock w2 b (.map (es.modify i fun e => { e with val := v' }) c), ?_, ⟨⟨_, _, hb, fun y hy => ?_, ?_, ?_⟩, fun y hy => ?_, ?_, fun y hy => ?_, fun p q hp hq hpq z hz => ?_⟩, hf⟩
  · simp [Instr.entryStore, MapKept.run_getObj_map hb2, asInt, asIntOf, goInt, hidx, MapKept.run_setObj_map _ hb2, Result.andThen, setBlock]
  · rw [hml] at hy
    rcases List.mem_or_eq_of_mem_set hy with hy | rfl
    · exact s1 y hy
    · exact s1 e0 (List.mem_of_getElem? k2)
  · rw [hml, List.map_set]
    have : (es.toList.map (·.born)).set i e0.born = es.toList.map (·.born) := set_self _ _ _ (by rw [List.getElem?_map, k2]; rfl)
    show ((es.toList.map (·.born)).set i e0.born).Nodup
    rw [this]
    exact s2
  · rw [hml, List.map_set, List.map_set, h2]
    obtain ⟨y, hy, e1, _⟩ := gr_get h2 k2
    rw [hi] at hy
    cases hy
    unfold entG
    simp only [e1]
  · rcases List.mem_or_eq_of_mem_set hy with hy | rfl
    · exact h.nms y hy
    · exact h.nms x hxm
  · rw [List.map_set]
    have : (G.map (·.nm)).set i x.nm = G.map (·.nm) := set_self _ _ _ (by rw [List.getElem?_map, hi]; rfl)
    show ((G.map (·.nm)).set i x.nm).Nodup
    rw [this]
    exact h.nd
  · obtain ⟨j, hj, rfl⟩ := List.getElem_of_mem hy
    rw [List.length_set] at hj
    rw [List.getElem_set]
    split
    · exact o.frP hf fun q hq hX => hnotb q hq hX
    · next hne =>
      refine (hold j hj (Ne.symm hne)).frP hf fun q hq hX => ?_
      obtain ⟨_, c1⟩ := (h.rows _ (List.getElem_mem hj)).kindP hq
      rw [hX, h1] at c1
      cases c1
  · rw [List.length_set] at hp hq
    rw [List.getElem_set] at hz ⊢
    by_cases e1 : i = p
    · rw [if_pos e1] at hz
      have hqi : ¬ i = q := fun e2 => hpq (e1.symm.trans e2)
      rw [if_neg hqi]
      intro hq2
      rcases e with e | e
      · exact h.apart i q hil hq hqi z (by rw [hxi, ← e]; exact hz) hq2
      · have h3 : some w1.heap.size = some z := e.symm.trans hz
        have := hlt1 q hq z hq2
        have h4 := Option.some.inj h3
        omega
    · rw [if_neg e1] at hz
      by_cases e2 : i = q
      · rw [if_pos e2]
        intro hq2
        rcases e with e | e
        · exact h.apart p i hp hil (Ne.symm e1) z hz (by rw [hxi, ← e]; exact hq2)
        · have h3 : some w1.heap.size = some z := e.symm.trans hq2
          have := hlt1 p hp z hz
          have h4 := Option.some.inj h3
          omega
      · rw [if_neg e2]
        exact h.apart p q hp hq hpq z hz
end Go.Proofs.YtfgaohilpbocbaaGreatDoor
end

section
namespace Go.Proofs.YtfgaohilpbocbaaGreatDoor
open Go.ChangeShapes Go.WideShapes Go.ChangeAt Go.RowKit Go.Joins Go.MapKept
set_option linter.unusedVariables false

theorem builtS_pk1 (V : Nat → Value) : Tryz.prog.builtSlice 100 1 [(0, .agg (rowArr 51 V))] = some (rowArr 51 V) := by kernel_rfl
theorem wpList_buildP {ops : Array Oper} {rest : List Oper} {o : Oper} {a : Act} {w : World} {Q : Exit → Act → World → Prop} (hgd : o.guard = none) (x : Operand) (ho : o.op = .buildSlice 60 1 #[(0, x)]) (f : Pw) (hx : a.eval x = .agg (rowArr 51 (pwV f)))
    (h : wpList Tryz.prog ops Q rest (a.put o.dst (.slice (some ⟨w.heap.size, 0, none⟩) 1 1)) (w.alloc (.cells (rowArr 51 (pwV f)) 100))) : wpList Tryz.prog ops Q (o :: rest) a w := by
  refine wpList_plain hgd fun K hK => ?_
  have hf := builtS_pk1 (pwV f)
  unfold Program.builtSlice at hf
  cases hie : Tryz.prog.info? 100 with
  | none => simp [hie] at hf
  | some ie =>
    simp only [hie] at hf
    cases hz : ie.zero with
    | none => simp [hz] at hf
    | some z =>
      simp only [hz] at hf
      by_cases hc : 1 * ie.size > 2 ^ 24 ∨ 1 * ie.size = 0
      · rw [if_pos hc] at hf; cases hf
      · rw [if_neg hc] at hf
        refine wp_buildSlice 60 100 1 _ ho _ ie z Tryz.underlying60 hie hz (fun h' => hc (Or.inl h')) (fun h' => hc (Or.inr h')) ?_ (hK _ _ h)
        simp only [List.map_toArray, List.map_cons, List.map_nil, hx]
        exact hf
theorem wpList_mapEnt {ops : Array Oper} {rest : List Oper} {o : Oper} {a : Act} {w : World} {Q : Exit → Act → World → Prop} (hgd : o.guard = none) (t : TypeId) (m x : Operand) (ho : o.op = .mapEntry t m x)
    (mv kv v : Value) (w1 : World) (hm : a.eval m = mv) (hx : a.eval x = kv) (hr : (Instr.mapEntry t mv kv).run Tryz.prog w = .ok v w1)
    (h : wpList Tryz.prog ops Q rest (a.put o.dst v) w1) : wpList Tryz.prog ops Q (o :: rest) a w := by
  refine wpList_plain hgd fun K hK => ?_
  unfold Oper.wp execOp
  simp only [ho, hm, hx, Sem.run_bind, Sem.run_pure, hr, Result.andThen_ok]
  exact hK _ _ h
theorem wpList_entSt {ops : Array Oper} {rest : List Oper} {o : Oper} {a : Act} {w : World} {Q : Exit → Act → World → Prop} (hgd : o.guard = none) (t : TypeId) (m s x : Operand) (ho : o.op = .entryStore t m s x)
    (mv sv xv : Value) (w1 : World) (hm : a.eval m = mv) (hs : a.eval s = sv) (hx : a.eval x = xv) (hr : (Instr.entryStore t mv sv xv).run Tryz.prog w = .ok () w1)
    (h : wpList Tryz.prog ops Q rest (a.put o.dst undef) w1) : wpList Tryz.prog ops Q (o :: rest) a w := by
  refine wpList_plain hgd fun K hK => ?_
  unfold Oper.wp execOp
  simp only [ho, hm, hs, hx, Sem.run_bind, Sem.run_pure, hr, Result.andThen_ok]
  exact hK _ _ h
theorem pk_cells1 {w' : World} {f : Pw} {g : Nat} (hg : w'.heap[g]? = some (.cells (rowArr 51 (pwV f)) 100 (0, 0))) :
    ∀ i (h : i < [f].length) k, k < 51 → w'.cell? ⟨g, 0 + i * 51 + k, none⟩ = some (pwV [f][i] k) := fun i hi k hk => by
  rw [cell_of_block hg]
  simp only [List.length_cons, List.length_nil] at hi
  obtain rfl : i = 0 := by omega
  simp [rowArr, hk]

/-- The groups of the first k packets. -/
structure GroupsOf (F : List Pw) (k : Nat) (G : List Gx) : Prop where
  each : ∀ x ∈ G, x.l = (F.take k).filter fun f => decide (f.p.set = x.nm)
  all : ∀ f ∈ F.take k, ∃ x ∈ G, x.nm = f.p.set
  few : G.length ≤ k
theorem GroupsOf.zero (F : List Pw) : GroupsOf F 0 [] := ⟨fun x hx => (by cases hx), fun f hf => by simp at hf, Nat.le_refl _⟩
theorem GroupsOf.next {F : List Pw} {k : Nat} {G G1 : List Gx} (h : GroupsOf F k G) {f : Pw} (hf : F[k]? = some f) {x : Gx} {nm : List Nat} {i : Nat}
    (hc : (G1 = G ∧ x ∈ G) ∨ ((∀ y ∈ G, y.nm ≠ nm) ∧ G1 = G ++ [⟨nm, .slice none 0 0, []⟩] ∧ x = ⟨nm, .slice none 0 0, []⟩)) (hi : G1[i]? = some x) (hx : x.nm = nm) (hn : nm = f.p.set) (hnd : (G1.map (·.nm)).Nodup) (v' : Value) :
    GroupsOf F (k + 1) (G1.set i ⟨x.nm, v', x.l ++ [f]⟩) := by
  have hk : k < F.length := (List.getElem?_eq_some_iff.1 hf).1
  have hfk : F[k] = f := (List.getElem?_eq_some_iff.1 hf).2
  have htk : F.take (k + 1) = F.take k ++ [f] := by rw [List.take_succ_eq_append_getElem hk, hfk]
  have hxl : x.l = (F.take k).filter fun f => decide (f.p.set = x.nm) := by
    rcases hc with ⟨_, h1⟩ | ⟨h1, _, h2⟩
    · exact h.each x h1
    · rw [h2]
      symm
      refine List.filter_eq_nil_iff.2 fun g hg => ?_
      obtain ⟨y, hy, hyn⟩ := h.all g hg
      simp only [decide_eq_true_eq]
      exact fun e => h1 y hy (hyn.trans e)
  have hil : i < G1.length := (List.getElem?_eq_some_iff.1 hi).1
  have hxi : G1[i] = x := (List.getElem?_eq_some_iff.1 hi).2
  have hold : ∀ j (hj : j < G1.length), j ≠ i → G1[j] ∈ G ∧ G1[j].nm ≠ nm := fun j hj hne => by
    refine ⟨?_, fun e => ?_⟩
    · rcases hc with ⟨h1, _⟩ | ⟨h0, h1, h2⟩
      · rw [← h1]; exact List.getElem_mem hj
      · subst h1
        have hi' : i = G.length := by
          by_cases e : i < G.length
          · exfalso
            rw [List.getElem_append_left e] at hxi
            exact h0 x (hxi ▸ List.getElem_mem e) hx
          · simp at hil; omega
        have hjl : j < G.length := by simp at hj; omega
        rw [List.getElem_append_left hjl]
        exact List.getElem_mem hjl
    · have h5 : (G1.map (·.nm))[j]? = some nm := by rw [List.getElem?_map, List.getElem?_eq_getElem hj]; simp [e]
      have h6 : (G1.map (·.nm))[i]? = some nm := by rw [List.getElem?_map, hi]; simp [hx]
      exact hne ((List.getElem?_inj (by simpa using hj) hnd).1 (h5.trans h6.symm))
  refine ⟨fun y hy => ?_, fun g hg => ?_, ?_⟩
  · obtain ⟨j, hj, rfl⟩ := List.getElem_of_mem hy
    rw [List.length_set] at hj
    rw [List.getElem_set]
    by_cases e : i = j
    · rw [if_pos e, htk, List.filter_append]
      simp only [hxl]
      have : [f].filter (fun g => decide (g.p.set = x.nm)) = [f] := by simp [hx, hn]
      rw [this]
    · rw [if_neg e, htk, List.filter_append]
      obtain ⟨h1, h2⟩ := hold j hj (Ne.symm e)
      have : [f].filter (fun g => decide (g.p.set = G1[j].nm)) = [] := by
        simp only [List.filter_cons, List.filter_nil]
        rw [if_neg]
        simp only [decide_eq_true_eq]
        exact fun e2 => h2 (e2.symm.trans hn.symm)
      rw [this, List.append_nil]
      exact h.each _ h1
  · have hset : ∀ y, y ∈ G1 → ∃ z ∈ G1.set i ⟨x.nm, v', x.l ++ [f]⟩, z.nm = y.nm := fun y hy => by
      obtain ⟨j, hj, rfl⟩ := List.getElem_of_mem hy
      refine ⟨(G1.set i ⟨x.nm, v', x.l ++ [f]⟩)[j]'(by rw [List.length_set]; exact hj), List.getElem_mem _, ?_⟩
      rw [List.getElem_set]
      split
      · next e => subst e; rw [hxi]
      · rfl
    rw [htk] at hg
    rcases List.mem_append.1 hg with hg | hg
    · obtain ⟨y, hy, hyn⟩ := h.all g hg
      have hy1 : y ∈ G1 := by
        rcases hc with ⟨h1, _⟩ | ⟨_, h1, _⟩
        · rw [h1]; exact hy
        · rw [h1]; exact List.mem_append_left _ hy
      obtain ⟨z, hz, hzn⟩ := hset y hy1
      exact ⟨z, hz, hzn.trans hyn⟩
    · rw [List.mem_singleton.1 hg]
      obtain ⟨z, hz, hzn⟩ := hset x (List.mem_of_getElem? hi)
      exact ⟨z, hz, hzn.trans (hx.trans hn)⟩
  · rw [List.length_set]
    have := h.few
    rcases hc with ⟨h1, _⟩ | ⟨_, h1, _⟩
    · rw [h1]; omega
    · rw [h1]; simp; omega
def ByPost (F : List Pw) (w : World) (e : Ending) (w' : World) : Prop := ∃ mb G, e = .returned (.map (some mb)) ∧ Below w.heap.size w w' ∧ GrAt (w.heap.size + 1) w' mb G ∧ GroupsOf F F.length G ∧ w.heap.size ≤ mb
set_option maxRecDepth 100000 in
set_option maxHeartbeats 8000000 in
theorem byName_any (pa : Option Addr) (pc : Nat) (F : List Pw) (w : World) (hs : PkSl w pa pc F) (hl : F.length ≤ 500) :
    Calls Tryz.prog 40 #[.slice pa F.length pc] w (ByPost F w) := by
  have hmm := @run_makeMap Tryz.prog
  obtain ⟨PQ, hPQ⟩ : ∃ PQ, PQ = ByPost F w := ⟨_, rfl⟩
  have HPQ := Lib.hid hPQ
  rw [← hPQ]
  have HB0 : Hid (Below w.heap.size w (w.alloc (.map #[] 0))) := (Below.refl _ _).alloc (Nat.le_refl _) _
  have HG0 : Hid (GrAt (w.heap.size + 1) (w.alloc (.map #[] 0)) w.heap.size []) := GrAt.new w
  have HS := Lib.hid hs
  have HF0 : Hid (GroupsOf F 0 []) := .zero F
  have hlm := hs.lt
  clear hs hPQ
  go_enter Tryz.func40, Tryz.ntmps40
  go_upto_region 2 with fail
  change Code.wp _ _ _ _ (w.alloc (.map #[] 0))
  obtain ⟨mb, hmb⟩ : ∃ mb, mb = w.heap.size := ⟨_, rfl⟩
  have hwB : w.heap.size ≤ mb := by omega
  rw [← hmb] at HG0 ⊢
  have HWB : Hid (mb + 1 = w.heap.size + 1) := by show _ = _; omega
  generalize w.alloc (.map #[] 0) = w1 at *
  clear hmb hmm
  go_wp2_with fail
  go_loopw [9] (fun i wr => ∃ (k : Nat) (G : List Gx), k ≤ F.length ∧ i = .int .i64 k ∧ Hid (GroupsOf F k G) ∧ Hid (GrAt (mb + 1) wr mb G) ∧ Hid (Below w.heap.size w wr)) (fun i _ => F.length - (intOf i).toNat)
  case atStart => exact ⟨0, [], by omega, rfl, HF0, HG0, HB0⟩
  case round =>
    obtain ⟨k, G, hk, rfl, HF, HG, HB⟩ := hrel
    clear HF0 HG0 HB0
    by_cases hlt : k < F.length
    · have hPk := (HS.out.below HB.out)
      obtain ⟨pb, off, rfl, hbl, hx⟩ := pks_one hPk hlt
      have hpk1 := HS.out.pks _ (List.getElem_mem hlt)
      have hfk : F[k]? = some F[k] := List.getElem?_eq_getElem hlt
      obtain ⟨f, hf⟩ : ∃ f, f = F[k] := ⟨_, rfl⟩
      rw [← hf] at hx hpk1 hfk
      have HFK := Lib.hid hfk
      have HXC := Lib.hid hx
      have HPK1 := Lib.hid hpk1.okk
      obtain ⟨AQ, hAQ⟩ : ∃ AQ, AQ = rowArr 51 (pwV f) := ⟨_, rfl⟩
      have VA : Hid (rowArr 51 (pwV f) = AQ) := hAQ.symm
      have HAS : Hid (AQ.size = 51) := by show _ = _; rw [hAQ, rowArr_size]
      have HA1 : Hid (AQ.all (·.oneCell') = true) := by show _ = _; rw [hAQ]; exact oneCell_pk _ _ _ _ _
      have HALL : Hid (∀ c : Array Value, (wr.alloc (.cells c 100)).heap[wr.heap.size]? = some (.cells c 100 (0, 0))) := fun c => heap_alloc_last wr _
      have HALB : Hid (∀ c : Array Value, Below wr.heap.size wr (wr.alloc (.cells c 100))) := fun c => (Below.refl _ _).alloc (Nat.le_refl _) _
      have d : decide ((k : Int) < (F.length : Int)) = true := by simp; omega
      clear hx hpk1 hfk hf hAQ hPk
      go_upto_region 5 with (first
        | (refine wpList_load_v (by rfl) 100 _ rfl pb (off + k * 51) 51 _ AQ VA.out rfl _ HXC.out Tryz.underlying100 rfl (by kernel_rfl) ?_)
        | (refine wpList_store_arr rfl 100 _ _ rfl wr.heap.size AQ rfl rfl 100 _ (HALL.out _) (by rw [HAS.out]; kernel_rfl) (by rw [HAS.out]; rfl) HA1.out ?_; intro w7 HC7 hf7; have HB67 : Hid (Below wr.heap.size wr w7) := (HALB.out _).trans (hf7.out.below (HALB.out _).size (fun k hk e => by omega)); clear hf7 HALL HALB))
      have HG7 : Hid (GrAt (mb + 1) w7 mb G) := HG.out.later HB67.out
      have HB7 : Hid (Below w.heap.size w w7) := HB.out.trans (HB67.out.mono HB.out.size)
      obtain ⟨g, hg⟩ : ∃ g, g = wr.heap.size := ⟨_, rfl⟩
      rw [← hg] at HC7
      rw [← hg]
      clear hg HB67 HB HG HXC
      have hcg : ∀ j, j < 51 → w7.cell? ⟨g, j, none⟩ = some (pwV f j) := fun j hj => by
        rw [cell_of_block HC7.out, ← VA.out]
        simp [rowArr, hj]
      have HCG : Hid (∀ j, j < 51 → w7.cell? ⟨g, 0 + j, none⟩ = some (pwV f j)) := fun j hj => by rw [Nat.zero_add]; exact hcg j hj
      have HC8 : Hid (∀ j, j < 8 → w7.cell? ⟨g, 0 + j, none⟩ = some (vOf f.p.set j)) := fun j hj => by
        rw [Nat.zero_add, hcg j (by omega)]
        unfold pwV
        rw [pkV_set _ _ _ _ _ hj]
      obtain ⟨SA, hSA⟩ : ∃ SA, SA = rowArr 8 (vOf f.p.set) := ⟨_, rfl⟩
      have VS : Hid (rowArr 8 (vOf f.p.set) = SA) := hSA.symm
      have hb78 : Below w7.heap.size w7 (w7.alloc (.cells (rowArr 51 (pwV f)) 100)) := (Below.refl _ _).alloc (Nat.le_refl _) _
      have hc8 : (w7.alloc (.cells (rowArr 51 (pwV f)) 100)).heap[w7.heap.size]? = some (.cells (rowArr 51 (pwV f)) 100 (0, 0)) := heap_alloc_last w7 _
      obtain ⟨i, x, st, G1, w9, hcase, hgi, hnm, hrun, hgr, hfr, hst⟩ := (HG7.out.later hb78).entry ⟨HPK1.out.set8, HPK1.out.setb⟩
      have HRUN := Lib.hid hrun
      have HB89 := Lib.hid (HB7.out.trans ((hb78.mono HB7.out.size).trans (hfr.below (Nat.le_trans HB7.out.size hb78.size) fun j hj hX => by omega)))
      have HC9 : Hid (w9.heap[w7.heap.size]? = some (.cells (rowArr 51 (pwV f)) 100 (0, 0))) := (hfr.block _ ((Array.getElem?_eq_some_iff.1 hc8).1) fun hX => by
        have := HG7.out.lt
        omega).trans hc8
      have HGR := Lib.hid (And.intro hgr (And.intro hgi hst))
      have HXL := Lib.hid (hgr.rows x (List.mem_of_getElem? hgi))
      have HCS := Lib.hid (And.intro hcase hnm)
      have HXN : Hid (x.l.length ≤ 1000000) := by
        show _ ≤ _
        rcases hcase with ⟨_, h1⟩ | ⟨_, _, h1⟩
        · rw [HF.out.each x h1]
          have := List.length_filter_le (fun f => decide (f.p.set = x.nm)) (F.take k)
          rw [List.length_take] at this
          omega
        · rw [h1]; simp
      have HZ9 : Hid (mb + 1 ≤ w9.heap.size) := by
        have := hgr.lt
        show _ ≤ _
        omega
      clear hcg hSA hb78 hc8 hcase hgi hnm hrun hgr hfr hst HG7
      go_wp2_with (first
        | (refine wpList_load_v (by rfl) 64 _ rfl g 0 8 _ SA VS.out rfl _ HC8.out Tryz.underlying64 rfl (by kernel_rfl) ?_)
        | (refine wpList_load_v (by rfl) 100 _ rfl g 0 51 _ AQ VA.out rfl _ HCG.out Tryz.underlying100 rfl (by kernel_rfl) ?_)
        | (refine wpList_buildP rfl _ rfl f (congrArg Value.agg VA.out.symm) ?_)
        | (refine wpList_mapEnt rfl 103 _ _ rfl (.map (some mb)) (nmV f.p.set) _ w9 rfl (congrArg Value.agg VS.out.symm) HRUN.out ?_)
        | (at_builtin; refine wpList_push_p _ rfl _ _ rfl (mb + 1) x.v x.l rfl HXL.out w7.heap.size 0 1 1 rfl [f] rfl (pk_cells1 HC9.out) HZ9.out HXN.out (by decide) ?_; intro v' w10 o10 g10 e10; obtain ⟨w11, hr11, hgr11, hf11⟩ := GrAt.store HGR.out.1 HGR.out.2.1 HGR.out.2.2 o10.out g10.out e10.out; have HR11 := Lib.hid hr11; have HG11 := Lib.hid hgr11; have HF11 := Lib.hid hf11; clear hr11 hgr11 hf11)
        | (refine wpList_entSt rfl 103 _ _ _ rfl (.map (some mb)) (goInt st) v' w11 rfl rfl rfl HR11.out ?_))
      have HFN : Hid (GroupsOf F (k + 1) (G1.set i ⟨x.nm, v', x.l ++ [f]⟩)) := HF.out.next HFK.out HCS.out.1 HGR.out.2.1 HCS.out.2 rfl HGR.out.1.nd v'
      have HB11 : Hid (Below w.heap.size w w11) := by
        have h10 : Below w.heap.size w w10 := HB89.out.trans ((Fr.of_grown (X := fun j => x.v.ownBlock = some j) g10.out fun b e => e).below HB89.out.size fun j hj hX => by have := (HXL.out.at hX).1; omega)
        exact h10.trans (HF11.out.below h10.size fun j hj hX => by omega)
      go_roundw
      case rel => exact ⟨k + 1, _, by omega, by go_num, HFN, HG11, HB11⟩
      case measure => simp [intOf]; omega
    · have hkL : k = F.length := by omega
      subst hkL
      have d : decide ((F.length : Int) < (F.length : Int)) = false := by simp
      go_wp2_with fail
      rw [HPQ.out]
      exact ⟨mb, G, rfl, HB.out, by rw [← HWB.out]; exact HG.out, HF.out, hwB⟩
end Go.Proofs.YtfgaohilpbocbaaGreatDoor
end

section
namespace Go.Proofs.YtfgaohilpbocbaaGreatDoor
open Go.ChangeShapes Go.WideShapes Go.ChangeAt Go.RowKit Go.Joins
set_option linter.unusedVariables false

def toPw (f : Fnd) : Pw := ⟨f.p, f.sa, f.sc, f.da, f.dc⟩
theorem fndV_pw (f : Fnd) (j : Nat) : fndV f (j + 1) = pwV (toPw f) j := by
  unfold fndV pwV toPw
  rw [if_neg (by omega)]
  simp
theorem oneCell_row (n : Nat) (V : Nat → Value) (h : ∀ j, (V j).oneCell' = true) : (rowArr n V).all (·.oneCell') = true := by
  rw [Array.all_eq_true]
  intro i hi
  simp only [rowArr, List.getElem_toArray, List.getElem_map]
  exact h _
/-- One more packet is appended: its slices lie apart from the row that grows. -/
theorem PSt.push1 {w0 wr w' : World} {v v' : Value} {F : List Pw} {f : Pw} (h : PSt w0 wr v F) (hp : PkAt wr f.p f.sa f.sc f.da f.dc) (ha : ApartP v f)
    (ho : OwnP w0.heap.size w' v' (F ++ [f])) (k : wr.grownBy w' v.ownBlock) (e : v'.ownBlock = v.ownBlock ∨ v'.ownBlock = some wr.heap.size) : PSt w0 w' v' (F ++ [f]) :=
  h.push (fun x hx => by rw [List.mem_singleton.1 hx]; exact ⟨hp, ha⟩) ho k e
set_option maxRecDepth 100000 in
set_option maxHeartbeats 8000000 in
theorem packets_any : PacketsC := by
  intro na nc N ba bc R w hN hR h20 hT ht
  obtain ⟨PQ, hPQ⟩ : ∃ PQ, PQ = PacketsPost R w := ⟨_, rfl⟩
  have HPQ := Lib.hid hPQ
  rw [← hPQ]
  have HR := Lib.hid hR
  have HTB := Lib.hid ht
  have hrl := hR.lt
  obtain ⟨arr, harr⟩ : ∃ arr, arr = storeA na N.length nc ba R.length bc := ⟨_, rfl⟩
  have hsv : storeV na N.length nc ba R.length bc = .agg (storeA na N.length nc ba R.length bc) := rfl
  rw [hsv]
  have hb0 : Below w.heap.size w (w.alloc (.cells (storeA na N.length nc ba R.length bc) 34)) := (Below.refl _ _).alloc (Nat.le_refl _) _
  have hx0 : (w.alloc (.cells (storeA na N.length nc ba R.length bc) 34)).heap[w.heap.size]? = some (.cells (storeA na N.length nc ba R.length bc) 34 (0, 0)) := heap_alloc_last w _
  rw [← harr] at hb0 hx0 ⊢
  have c1 : (w.alloc (.cells arr 34)).cell? ⟨w.heap.size, 1, none⟩ = some (.slice ba R.length bc) := by
    rw [cell_of_block hx0, harr]; rfl
  have HB0 := Lib.hid hb0
  clear hN hR ht hPQ harr hsv hb0 hx0
  go_enter Tryz.func16, Tryz.ntmps16
  go_upto_region 2 with fail
  change Code.wp _ _ _ _ (w.alloc (.cells arr 34))
  obtain ⟨bx, hbx⟩ : ∃ bx, bx = w.heap.size := ⟨_, rfl⟩
  rw [← hbx] at c1 ⊢
  generalize w.alloc (.cells arr 34) = w1 at *
  clear hbx
  have HP0 : Hid (PSt w w1 (.slice none 0 0) []) := ⟨OwnP.nil _ _, HB0.out, fun f hf => (by cases hf)⟩
  have HA0 : Hid (AllFound (R.take 0) (([] : List Pw).map fun f => f.p)) := .nil
  go_wp2_with fail
  clear c1
  go_loopw [3, 11] (fun v i wr => ∃ (k : Nat) (F : List Pw), k ≤ R.length ∧ i = .int .i64 k ∧ Hid (PSt w wr v F) ∧ Hid (AllFound (R.take k) (F.map fun f => f.p))) (fun _ i _ => R.length - (intOf i).toNat)
  case atStart => exact ⟨0, [], by omega, rfl, HP0, HA0⟩
  case round =>
    obtain ⟨k, F, hk, rfl, HP, HA⟩ := hrel
    clear HP0 HA0
    generalize wr = wo at *
    by_cases hlt : k < R.length
    · have d : decide ((k : Int) < (R.length : Int)) = true := by simp; omega
      obtain ⟨g, off, rfl, hbl, hrr⟩ := (HR.out.keep (Nat.le_refl _) (Keep.of_below HP.out.below)).some hlt
      obtain ⟨ai, ci, hck, hrw⟩ := hrr k hlt
      have hle : R[k].length ≤ 20000 := by
        have h1 := totN_next hlt
        have h2 := totN_take R (k + 1)
        omega
      have hfd := find_any ai ci R[k] wo hrw.sl (by omega) (HTB.out.below HP.out.below)
      have HSL := Lib.hid hrw.sl
      clear hrr hrw
      go_wp2_with (go_at_call 17; (with_reducible refine hfd.mono ?_); rintro e w2 ⟨v2, F2, rfl, hfs, hfn, hfl⟩; obtain ⟨a2, c2, rfl, hc2, hm2⟩ := hfs.own.slice; have HFS := Lib.hid hfs; have HFN2 := Lib.hid hfn; have hF2 : F2.length ≤ 9223372036854775807 := (by omega); clear hfs hfn hfd hck)
      have hfs := HFS.out
      have hfn := HFN2.out
      have HFN : Hid (AllFound (R.take (k + 1)) ((F ++ F2.map toPw).map fun f => f.p)) := by
        show AllFound _ _
        rw [List.take_succ_eq_append_getElem hlt, List.map_append]
        have h1 := AllFound.snoc HA.out hfn
        have h2 : (F2.map Fnd.pair).map (·.2) = (F2.map toPw).map (fun f => f.p) := by rw [List.map_map, List.map_map]; rfl
        rw [h2] at h1
        exact h1
      have HP2 : Hid (PSt w w2 u3 (F ++ (F2.take 0).map toPw)) := by
        show PSt _ _ _ _
        rw [List.take_zero, List.map_nil, List.append_nil]
        exact HP.out.later hfs.below
      have HV2 : Hid (∀ b, u3.ownBlock = some b → b < wo.heap.size ∨ w2.heap.size ≤ b) := fun b hb => .inl (HP.out.own.at hb).2
      have HQ2 : Hid (Fr (fun j => j < wo.heap.size ∨ w2.heap.size ≤ j) w2 w2) := Fr.refl _ _
      have HWS : Hid (w.heap.size ≤ wo.heap.size ∧ wo.heap.size ≤ w2.heap.size) := ⟨HP.out.below.size, hfs.below.size⟩
      have HFC : Hid (F.length + F2.length ≤ 1000000) := by
        show _ ≤ _
        have h1 := (HFN.out.room fun x hx => HR.out.byte x (List.mem_of_mem_take hx)).1
        have h2 := totN_take R (k + 1)
        simp only [List.length_map, List.length_append] at h1
        omega
      clear hfs hfn HSL HP HA hle HFN2
      go_loopw [3, 18] (fun v i wq => ∃ (n : Nat), n ≤ F2.length ∧ i = .int .i64 n ∧ Hid (PSt w wq v (F ++ (F2.take n).map toPw)) ∧ Hid (∀ b, v.ownBlock = some b → b < wo.heap.size ∨ w2.heap.size ≤ b) ∧ Hid (Fr (fun j => j < wo.heap.size ∨ w2.heap.size ≤ j) w2 wq)) (fun _ i _ => F2.length - (intOf i).toNat)
      case atStart => exact ⟨0, by omega, rfl, HP2, HV2, HQ2⟩
      case round =>
        obtain ⟨n, hn, rfl, HP, HV, HQ⟩ := hrel
        clear HP2 HV2 HQ2
        by_cases hlt2 : n < F2.length
        · have d2 : decide ((n : Int) < (F2.length : Int)) = true := by simp; omega
          obtain ⟨gf, rfl, hgl, hgc⟩ := HFS.out.own.cells hlt2
          have hga : wo.heap.size ≤ gf := (HFS.out.own.at (b := gf) rfl).1
          have hbf : wr.heap[gf]? = w2.heap[gf]? := HQ.out.block gf hgl (by omega)
          obtain ⟨f, hf⟩ : ∃ f, f = F2[n] := ⟨_, rfl⟩
          rw [← hf] at hgc
          have hfm : f ∈ F2 := by rw [hf]; exact List.getElem_mem _
          obtain ⟨hpk, _⟩ := HFS.out.pks f hfm
          obtain ⟨hn1, hn2⟩ := HFS.out.new f hfm
          have hsb : f.p.sums ≠ [] → ∀ q, f.sa = some q → q.block < w2.heap.size := fun hne q hq => by
            rcases hpk.sums.here with e | ⟨b, off, e, hb, _⟩
            · exact absurd e hne
            · rw [e] at hq; cases hq; exact hb
          have hdb : f.p.data ≠ [] → ∀ q, f.da = some q → q.block < w2.heap.size := fun hne q hq => hpk.data.blk q hq hne
          have HPK : Hid (∀ w', Fr (fun j => j < wo.heap.size ∨ w2.heap.size ≤ j) w2 w' → PkAt w' (toPw f).p (toPw f).sa (toPw f).sc (toPw f).da (toPw f).dc) := fun w' h =>
            hpk.apart2 h (fun hne q hq hX => by have := hsb hne q hq; have := hn1 q hq; omega) (fun hne q hq hX => by have := hdb hne q hq; have := hn2 q hq; omega)
          have HAP : Hid (∀ v : Value, (∀ b, v.ownBlock = some b → b < wo.heap.size ∨ w2.heap.size ≤ b) → ApartP v (toPw f)) := fun v hv =>
            ⟨fun hne q hq hX => by have := hv _ hX; have := hsb hne q hq; have := hn1 q hq; omega, fun hne q hq hX => by have := hv _ hX; have := hdb hne q hq; have := hn2 q hq; omega⟩
          have HXC : Hid (∀ j, j < 52 → wr.cell? ⟨gf, n * 52 + j, none⟩ = some (fndV f j)) := fun j hj => (World.cell?_of_block (a := ⟨gf, n * 52 + j, none⟩) hbf).trans (hgc j hj)
          have HTK : Hid ((F2.take (n + 1)).map toPw = (F2.take n).map toPw ++ [toPw f]) := by
            show _ = _
            rw [List.take_succ_eq_append_getElem hlt2, List.map_append, ← hf]
            rfl
          obtain ⟨AF, hAF⟩ : ∃ AF, AF = rowArr 52 (fndV f) := ⟨_, rfl⟩
          have VF : Hid (rowArr 52 (fndV f) = AF) := hAF.symm
          have HFS2 : Hid (AF.size = 52) := by show _ = _; rw [hAF, rowArr_size]
          have HF1 : Hid (AF.all (·.oneCell') = true) := by
            show _ = _
            rw [hAF]
            exact oneCell_row 52 (fndV f) (fndV_one f)
          have HALL : Hid (∀ c : Array Value, (wr.alloc (.cells c 112)).heap[wr.heap.size]? = some (.cells c 112 (0, 0))) := fun c => heap_alloc_last wr _
          have HALB : Hid (∀ c : Array Value, Below wr.heap.size wr (wr.alloc (.cells c 112))) := fun c => (Below.refl _ _).alloc (Nat.le_refl _) _
          clear hgc hf hfm hpk hn1 hn2 hsb hdb hAF hbf
          go_upto_region 8 with (first
            | (refine wpList_load_v (by rfl) 112 _ rfl gf (n * 52) 52 _ AF VF.out rfl _ HXC.out Tryz.underlying112 rfl (by kernel_rfl) ?_)
            | (refine wpList_store_arr rfl 112 _ _ rfl wr.heap.size AF rfl rfl 112 _ (HALL.out _) (by rw [HFS2.out]; kernel_rfl) (by rw [HFS2.out]; rfl) HF1.out ?_; intro w7 HC7 hf7; have HB67 : Hid (Below wr.heap.size wr w7) := (HALB.out _).trans (hf7.out.below (HALB.out _).size (fun k hk e => by omega)); clear hf7 HALL HALB))
          obtain ⟨gb, hgb⟩ : ∃ gb, gb = wr.heap.size := ⟨_, rfl⟩
          rw [← hgb] at HC7 ⊢
          clear hgb
          obtain ⟨AQ, hAQ⟩ : ∃ AQ, AQ = rowArr 51 (pwV (toPw f)) := ⟨_, rfl⟩
          have VA : Hid (rowArr 51 (pwV (toPw f)) = AQ) := hAQ.symm
          have HC8 : Hid (∀ j, j < 51 → w7.cell? ⟨gb, 1 + j, none⟩ = some (pwV (toPw f) j)) := fun j hj => by
            rw [cell_of_block HC7.out, ← VF.out, ← fndV_pw, Nat.add_comm 1 j]
            have := rowArr_get 52 (fndV f) (j + 1)
            rw [if_pos (by omega)] at this
            rw [← Array.getElem?_toList]
            exact this
          have hb78 : Below w7.heap.size w7 (w7.alloc (.cells (rowArr 51 (pwV (toPw f))) 100)) := (Below.refl _ _).alloc (Nat.le_refl _) _
          have HC9 : Hid ((w7.alloc (.cells (rowArr 51 (pwV (toPw f))) 100)).heap[w7.heap.size]? = some (.cells (rowArr 51 (pwV (toPw f))) 100 (0, 0))) := heap_alloc_last w7 _
          have hb8 : Below wr.heap.size wr (w7.alloc (.cells (rowArr 51 (pwV (toPw f))) 100)) := HB67.out.trans (hb78.mono HB67.out.size)
          have HP8 := Lib.hid (HP.out.later hb8)
          have HQ8 : Hid (Fr (fun j => j < wo.heap.size ∨ w2.heap.size ≤ j) w2 (w7.alloc (.cells (rowArr 51 (pwV (toPw f))) 100))) := HQ.out.later hb8
          have HW8 : Hid (w.heap.size ≤ (w7.alloc (.cells (rowArr 51 (pwV (toPw f))) 100)).heap.size) := HP8.out.below.size
          have HLN : Hid ((F ++ (F2.take n).map toPw).length ≤ 1000000) := by
            show _ ≤ _
            have := HFC.out
            rw [List.length_append, List.length_map, List.length_take]
            omega
          clear hAQ hb78 hb8 HB67 HXC HC7 HP HQ
          go_wp2_with (first
            | (refine wpList_load_v (by rfl) 100 _ rfl gb 1 51 _ AQ VA.out rfl _ HC8.out Tryz.underlying100 rfl (by kernel_rfl) ?_)
            | (refine wpList_buildP rfl _ rfl (toPw f) (congrArg Value.agg VA.out.symm) ?_)
            | (at_builtin; refine wpList_push_p _ rfl _ _ rfl w.heap.size _ (F ++ (F2.take n).map toPw) rfl HP8.out.own w7.heap.size 0 1 1 rfl [toPw f] rfl (pk_cells1 HC9.out) HW8.out HLN.out (by decide) ?_; intro v' w10 o10 g10 e10))
          have hf10 := Fr.of_grown (X := fun j => u3.ownBlock = some j) g10.out fun b e => e
          have HP10 : Hid (PSt w w10 v' (F ++ (F2.take (n + 1)).map toPw)) := by
            have h1 := HP8.out.push1 (HPK.out _ HQ8.out) (HAP.out _ HV.out) o10.out g10.out e10.out
            show PSt _ _ _ _
            rw [HTK.out, ← List.append_assoc]
            exact h1
          have HV10 : Hid (∀ b, v'.ownBlock = some b → b < wo.heap.size ∨ w2.heap.size ≤ b) := fun b hb => by
            rcases e10.out with e | e
            · exact HV.out b (e ▸ hb)
            · have h1 := HQ8.out.size
              have h2 : some (w7.alloc (.cells (rowArr 51 (pwV (toPw f))) 100)).heap.size = some b := e.symm.trans hb
              have h3 := Option.some.inj h2
              exact .inr (by omega)
          have HQ10 : Hid (Fr (fun j => j < wo.heap.size ∨ w2.heap.size ≤ j) w2 w10) := HQ8.out.trans (hf10.mono fun j _ hj => HV.out j hj)
          go_roundw
          case rel => exact ⟨n + 1, by omega, by go_num, HP10, HV10, HQ10⟩
          case measure => simp [intOf]; omega
        · have hnL : n = F2.length := by omega
          subst hnL
          have d2 : decide ((F2.length : Int) < (F2.length : Int)) = false := by simp
          have HPE : Hid (PSt w wr u3 (F ++ F2.map toPw)) := by
            have := HP.out
            rw [List.take_length] at this
            exact this
          go_wp2_with fail
          go_roundw
          case rel => exact ⟨k + 1, _, by omega, by go_num, HPE, HFN⟩
          case measure => simp [intOf]; omega
    · have hkL : k = R.length := by omega
      subst hkL
      have d : decide ((R.length : Int) < (R.length : Int)) = false := by simp
      have HA' : Hid (AllFound R (F.map fun f => f.p)) := by have := HA.out; rw [List.take_length] at this; exact this
      go_wp2_with fail
      rw [HPQ.out]
      exact ⟨_, F, rfl, HP.out, HA'.out⟩
end Go.Proofs.YtfgaohilpbocbaaGreatDoor
end
