/-
  The library's merge in place at package dense's lines: the two halves.
-/
import Derived.Test.YtiglmoggpjgmbaaSymR
import Derived.Deep.DeepCutAuto
namespace Go.Proofs.Ytiglmoggpjgmbaa
open Go.ChangeShapes Go.WideShapes Go.ChangeAt Go.RowKit Go.Joins
set_option linter.unusedVariables false

def headIs (n : Nat) : Code → Bool
  | .region k _ _ => k == n
  | .seq a _ => headIs n a
  | _ => false
/-- The code from a region on. -/
def fromRegion (n : Nat) : Code → Option Code
  | .seq a b => match headIs n a with
    | true => some (.seq a b)
    | false => match fromRegion n a with
      | some c => some c
      | none => fromRegion n b
  | .loop c => fromRegion n c
  | .block _ c => fromRegion n c
  | .scope c => fromRegion n c
  | .cond _ a b => match fromRegion n a with
    | some c => some c
    | none => fromRegion n b
  | _ => none
noncomputable def symFrom (n : Nat) : Code := (Try.f48.body.bind (fromRegion n)).getD .skip

set_option maxHeartbeats 8000000 in
set_option maxRecDepth 1000000 in
theorem sym_second (N : Nat) (HI : Hid (∀ (B cap a m b : Nat) (d0 d : Array LV) (w0 w : World), b - a < N → RL w0 B d0 → d0.size = d.size → SL w0 B d w → a < m → m < b → b ≤ d.size → d.size ≤ 1000000 → Sort.SortedIn ltR a m d → Sort.SortedIn ltR m b d →
      Calls Try.prog 48 #[.slice (some ⟨B, 0, none⟩) d.size cap, .int .i64 a, .int .i64 m, .int .i64 b, .func (.func 35) #[] #[]] w (SymPst w0 B a b d)))
    (B cap a m b M s en : Nat) (d0 d : Array LV) (w0 wc : World) (hN : b - a < N + 1) (R : RL w0 B d0) (hs : d0.size = d.size) (hb : b ≤ d.size) (hsz : d.size ≤ 1000000) (ha1 : a ≤ 1000000) (hb1 : b ≤ 1000000) (m1 : a < M) (m2 : M < b) (e2 : M ≤ en) (e3 : en ≤ b) (e5 : s ≤ M) (e6 : a ≤ s)
    (D2 : Aside (∃ d', SL w0 B d' wc ∧ Quart ltR M M M en b d' ∧ (∀ i j, a ≤ i → i < M → M ≤ j → j < b → ltR d'[j]! d'[i]! = false) ∧ d'.size = d.size ∧ Sort.PermIn a b d d' ∧ Sort.SortedIn ltR a M d')) (c19 c21 c22 c23 u25 u26 u27 u28 u29 u30 u31 u32 u33 u34 u35 u36 u37 u38 u39 u40 u41 u42 u43 u44 u45 u46 u47 u48 u49 u50 u51 u52 u53 u54 u55 u56 u57 u58 u59 u60 u61 u62 u63 u64 u65 u66 u67 u68 u69 u70 u71 u72 u73 u74 u75 u76 u77 u78 u79 u80 u81 u82 u83 u84 u85 u86 u87 u88 u89 u90 u91 u92 u93 u94 u95 u96 u97 u98 u99 u100 u101 u102 u103 u104 u105 u106 u107 u108 u109 u110 u111 u112 u113 u114 u115 u116 u117 u118 u119 u120 u121 u122 u123 u124 u125 u126 u127 u128 u129 u130 u131 u132 u133 u134 u135 u136 u137 u138 u139 u140 u141 u142 u143 u144 u145 u146 u147 u148 u149 u150 u151 u152 u153 u154 u155 u156 u157 u158 u159 u160 u161 u162 u163 u164 u165 u166 u167 u168 u169 u170 u171 u172 u173 u174 u175 u176 u177 u178 u179 u180 u181 u182 u183 u184 u185 u186 u187 u188 u189 u190 u191 u192 u193 u194 u195 u196 u197 u198 u199 u200 u201 u202 u203 u204 u205 u206 u207 u208 u209 u210 u211 u212 u213 u214 u215 u216 u217 u218 u219 : Value) :
    Code.wp Try.prog (symFrom 43) (bodyPost Try.prog Try.f48 (SymPst w0 B a b d)) ⟨(.slice (some ⟨B, 0, none⟩) d.size cap :: .int .i64 a :: .int .i64 m :: .int .i64 b :: .func (.func 35) #[] #[] :: undef :: undef :: undef :: undef :: undef :: undef :: undef :: undef :: undef :: undef :: undef :: undef :: undef :: .int .i64 M :: c19 :: .int .i64 s :: c21 :: c22 :: c23 :: .int .i64 en :: u25 :: u26 :: u27 :: u28 :: u29 :: u30 :: u31 :: u32 :: u33 :: u34 :: u35 :: u36 :: u37 :: u38 :: u39 :: u40 :: u41 :: u42 :: u43 :: u44 :: u45 :: u46 :: u47 :: u48 :: u49 :: u50 :: u51 :: u52 :: u53 :: u54 :: u55 :: u56 :: u57 :: u58 :: u59 :: u60 :: u61 :: u62 :: u63 :: u64 :: u65 :: u66 :: u67 :: u68 :: u69 :: u70 :: u71 :: u72 :: u73 :: u74 :: u75 :: u76 :: u77 :: u78 :: u79 :: u80 :: u81 :: u82 :: u83 :: u84 :: u85 :: u86 :: u87 :: u88 :: u89 :: u90 :: u91 :: u92 :: u93 :: u94 :: u95 :: u96 :: u97 :: u98 :: u99 :: u100 :: u101 :: u102 :: u103 :: u104 :: u105 :: u106 :: u107 :: u108 :: u109 :: u110 :: u111 :: u112 :: u113 :: u114 :: u115 :: u116 :: u117 :: u118 :: u119 :: u120 :: u121 :: u122 :: u123 :: u124 :: u125 :: u126 :: u127 :: u128 :: u129 :: u130 :: u131 :: u132 :: u133 :: u134 :: u135 :: u136 :: u137 :: u138 :: u139 :: u140 :: u141 :: u142 :: u143 :: u144 :: u145 :: u146 :: u147 :: u148 :: u149 :: u150 :: u151 :: u152 :: u153 :: u154 :: u155 :: u156 :: u157 :: u158 :: u159 :: u160 :: u161 :: u162 :: u163 :: u164 :: u165 :: u166 :: u167 :: u168 :: u169 :: u170 :: u171 :: u172 :: u173 :: u174 :: u175 :: u176 :: u177 :: u178 :: u179 :: u180 :: u181 :: u182 :: u183 :: u184 :: u185 :: u186 :: u187 :: u188 :: u189 :: u190 :: u191 :: u192 :: u193 :: u194 :: u195 :: u196 :: u197 :: u198 :: u199 :: u200 :: u201 :: u202 :: u203 :: u204 :: u205 :: u206 :: u207 :: u208 :: u209 :: u210 :: u211 :: u212 :: u213 :: u214 :: u215 :: u216 :: u217 :: u218 :: u219 :: []).toArray, []⟩ wc := by
  conv => arg 2; whnf
  obtain ⟨t3, ht3⟩ : ∃ t3, t3 = (decide (M < en) && decide (en < b)) := ⟨_, rfl⟩
  have HT3 := Lib.hid ht3
  clear ht3
  go_upto_region 43 with fail
  go_cut [213] (fun s213 wx => s213 = .bool t3 ∧ wc = wx)
  case first =>
    by_cases c1 : M < en
    · have c1d : decide ((M : Int) < (en : Int)) = true := by simp; omega
      by_cases c2 : en < b
      · have c2d : decide ((en : Int) < (b : Int)) = true := by simp; omega
        obtain rfl : t3 = true := by rw [HT3.out]; simp; omega
        go_wp2_with fail
        go_meet
        exact ⟨rfl, rfl⟩
      · have c2d : decide ((en : Int) < (b : Int)) = false := by simp; omega
        obtain rfl : t3 = false := by rw [HT3.out]; simp; omega
        go_wp2_with fail
        go_meet
        exact ⟨rfl, rfl⟩
    · have c1d : decide ((M : Int) < (en : Int)) = false := by simp; omega
      obtain rfl : t3 = false := by rw [HT3.out]; simp; omega
      go_wp2_with fail
      go_meet
      exact ⟨rfl, rfl⟩
  case rest =>
    obtain ⟨rfl, rfl⟩ := hcut
    cases t3 with
    | true =>
      have c1 : M < en ∧ en < b := by have := HT3.out; simp at this; omega
      obtain ⟨d2, S2, Q2, hx, hds, hp1, hs2⟩ := D2.out
      have h := HI.out B cap M en b d0 d2 w0 wc (by omega) R (by omega) S2 c1.1 c1.2 (by omega) (by omega) Q2.q3 Q2.q4
      rw [hds] at h
      have FF : Aside (∀ w2, (∃ d', SL w0 B d' w2 ∧ Sort.PermIn M b d2 d' ∧ Sort.SortedIn ltR M b d') → SymPst w0 B a b d (.returned (.tuple #[])) w2) := fun w2 ⟨d3, S3, hp3, hs3⟩ =>
        ⟨rfl, d3, S3, pm_trans hp1 (pm_mono (by omega) (Nat.le_refl _) (by omega) hp3), merged hs2 hx (by omega) hp3 hs3⟩
      clear S2 Q2 hx hds hp1 hs2 HI D2
      go_wp2_with fail
      (with_reducible refine h.mono ?_)
      rintro e w2 ⟨rfl, d3, S2, W2⟩
      have F := Lib.hid (FF.out w2 ⟨d3, S2, W2⟩)
      clear S2 W2 h FF
      go_wp2_with fail
      go_end0
      exact F.out
    | false =>
      have F : Aside (SymPst w0 B a b d (.returned (.tuple #[])) wc) := by
        have c1 : ¬ (M < en ∧ en < b) := by have := HT3.out; simp at this; omega
        obtain ⟨d2, S2, Q2, hx, hds, hp1, hs2⟩ := D2.out
        exact ⟨rfl, d2, S2, hp1, merged hs2 hx (by omega) (pm_refl _ _ _) (sorted_join (by omega) Q2.q3 Q2.q4)⟩
      clear HI D2
      go_wp2_with fail
      go_end0
      exact F.out

set_option maxHeartbeats 8000000 in
set_option maxRecDepth 1000000 in
theorem sym_first (N : Nat) (HI : Hid (∀ (B cap a m b : Nat) (d0 d : Array LV) (w0 w : World), b - a < N → RL w0 B d0 → d0.size = d.size → SL w0 B d w → a < m → m < b → b ≤ d.size → d.size ≤ 1000000 → Sort.SortedIn ltR a m d → Sort.SortedIn ltR m b d →
      Calls Try.prog 48 #[.slice (some ⟨B, 0, none⟩) d.size cap, .int .i64 a, .int .i64 m, .int .i64 b, .func (.func 35) #[] #[]] w (SymPst w0 B a b d)))
    (B cap a m b M s en : Nat) (d0 d d1 : Array LV) (w0 wc : World) (hN : b - a < N + 1) (R : RL w0 B d0) (hs : d0.size = d.size) (hb : b ≤ d.size) (hsz : d.size ≤ 1000000) (ha1 : a ≤ 1000000) (hb1 : b ≤ 1000000) (m1 : a < M) (m2 : M < b) (e2 : M ≤ en) (e3 : en ≤ b) (e5 : s ≤ M) (e6 : a ≤ s)
    (D1 : Aside (SL w0 B d1 wc ∧ Quart ltR a s M en b d1 ∧ d1.size = d.size ∧ Sort.PermIn a b d d1)) (c19 c21 c22 c23 u25 u26 u27 u28 u29 u30 u31 u32 u33 u34 u35 u36 u37 u38 u39 u40 u41 u42 u43 u44 u45 u46 u47 u48 u49 u50 u51 u52 u53 u54 u55 u56 u57 u58 u59 u60 u61 u62 u63 u64 u65 u66 u67 u68 u69 u70 u71 u72 u73 u74 u75 u76 u77 u78 u79 u80 u81 u82 u83 u84 u85 u86 u87 u88 u89 u90 u91 u92 u93 u94 u95 u96 u97 u98 u99 u100 u101 u102 u103 u104 u105 u106 u107 u108 u109 u110 u111 u112 u113 u114 u115 u116 u117 u118 u119 u120 u121 u122 u123 u124 u125 u126 u127 u128 u129 u130 u131 u132 u133 u134 u135 u136 u137 u138 u139 u140 u141 u142 u143 u144 u145 u146 u147 u148 u149 u150 u151 u152 u153 u154 u155 u156 u157 u158 u159 u160 u161 u162 u163 u164 u165 u166 u167 u168 u169 u170 u171 u172 u173 u174 u175 u176 u177 u178 u179 u180 u181 u182 u183 u184 u185 u186 u187 u188 u189 u190 u191 u192 u193 u194 u195 u196 u197 u198 u199 u200 u201 u202 u203 u204 u205 u206 u207 u208 u209 u210 u211 u212 u213 u214 u215 u216 u217 u218 u219 : Value) :
    Code.wp Try.prog (symFrom 41) (bodyPost Try.prog Try.f48 (SymPst w0 B a b d)) ⟨(.slice (some ⟨B, 0, none⟩) d.size cap :: .int .i64 a :: .int .i64 m :: .int .i64 b :: .func (.func 35) #[] #[] :: undef :: undef :: undef :: undef :: undef :: undef :: undef :: undef :: undef :: undef :: undef :: undef :: undef :: .int .i64 M :: c19 :: .int .i64 s :: c21 :: c22 :: c23 :: .int .i64 en :: u25 :: u26 :: u27 :: u28 :: u29 :: u30 :: u31 :: u32 :: u33 :: u34 :: u35 :: u36 :: u37 :: u38 :: u39 :: u40 :: u41 :: u42 :: u43 :: u44 :: u45 :: u46 :: u47 :: u48 :: u49 :: u50 :: u51 :: u52 :: u53 :: u54 :: u55 :: u56 :: u57 :: u58 :: u59 :: u60 :: u61 :: u62 :: u63 :: u64 :: u65 :: u66 :: u67 :: u68 :: u69 :: u70 :: u71 :: u72 :: u73 :: u74 :: u75 :: u76 :: u77 :: u78 :: u79 :: u80 :: u81 :: u82 :: u83 :: u84 :: u85 :: u86 :: u87 :: u88 :: u89 :: u90 :: u91 :: u92 :: u93 :: u94 :: u95 :: u96 :: u97 :: u98 :: u99 :: u100 :: u101 :: u102 :: u103 :: u104 :: u105 :: u106 :: u107 :: u108 :: u109 :: u110 :: u111 :: u112 :: u113 :: u114 :: u115 :: u116 :: u117 :: u118 :: u119 :: u120 :: u121 :: u122 :: u123 :: u124 :: u125 :: u126 :: u127 :: u128 :: u129 :: u130 :: u131 :: u132 :: u133 :: u134 :: u135 :: u136 :: u137 :: u138 :: u139 :: u140 :: u141 :: u142 :: u143 :: u144 :: u145 :: u146 :: u147 :: u148 :: u149 :: u150 :: u151 :: u152 :: u153 :: u154 :: u155 :: u156 :: u157 :: u158 :: u159 :: u160 :: u161 :: u162 :: u163 :: u164 :: u165 :: u166 :: u167 :: u168 :: u169 :: u170 :: u171 :: u172 :: u173 :: u174 :: u175 :: u176 :: u177 :: u178 :: u179 :: u180 :: u181 :: u182 :: u183 :: u184 :: u185 :: u186 :: u187 :: u188 :: u189 :: u190 :: u191 :: u192 :: u193 :: u194 :: u195 :: u196 :: u197 :: u198 :: u199 :: u200 :: u201 :: u202 :: u203 :: u204 :: u205 :: u206 :: u207 :: u208 :: u209 :: u210 :: u211 :: u212 :: u213 :: u214 :: u215 :: u216 :: u217 :: u218 :: u219 :: []).toArray, []⟩ wc := by
  conv => arg 2; whnf
  obtain ⟨t2, ht2⟩ : ∃ t2, t2 = (decide (a < s) && decide (s < M)) := ⟨_, rfl⟩
  have HT2 := Lib.hid ht2
  clear ht2
  go_upto_region 41 with fail
  go_cut [199] (fun s199 wx => s199 = .bool t2 ∧ wc = wx)
  case first =>
    by_cases c1 : a < s
    · have c1d : decide ((a : Int) < (s : Int)) = true := by simp; omega
      by_cases c2 : s < M
      · have c2d : decide ((s : Int) < (M : Int)) = true := by simp; omega
        obtain rfl : t2 = true := by rw [HT2.out]; simp; omega
        go_wp2_with fail
        go_meet
        exact ⟨rfl, rfl⟩
      · have c2d : decide ((s : Int) < (M : Int)) = false := by simp; omega
        obtain rfl : t2 = false := by rw [HT2.out]; simp; omega
        go_wp2_with fail
        go_meet
        exact ⟨rfl, rfl⟩
    · have c1d : decide ((a : Int) < (s : Int)) = false := by simp; omega
      obtain rfl : t2 = false := by rw [HT2.out]; simp; omega
      go_wp2_with fail
      go_meet
      exact ⟨rfl, rfl⟩
  case rest =>
    obtain ⟨rfl, rfl⟩ := hcut
    go_upto_if 199 with fail
    go_cut [] (fun wx => Aside (∃ d', SL w0 B d' wx ∧ Sort.PermIn a M d1 d' ∧ Sort.SortedIn ltR a M d'))
    case first =>
      cases t2 with
      | true =>
        have c1 : a < s ∧ s < M := by have := HT2.out; simp at this; omega
        obtain ⟨S2, Q1, hds, hp1⟩ := D1.out
        have h := HI.out B cap a s M d0 d1 w0 wc (by omega) R (by omega) S2 c1.1 c1.2 (by omega) (by omega) Q1.q1 Q1.q2
        rw [hds] at h
        clear S2 Q1 hds hp1 HI
        go_wp2_with fail
        (with_reducible refine h.mono ?_)
        rintro e w2 ⟨rfl, d2, S2, W2⟩
        have F : Aside (∃ d', SL w0 B d' w2 ∧ Sort.PermIn a M d1 d' ∧ Sort.SortedIn ltR a M d') := ⟨d2, S2, W2⟩
        clear S2 W2 h
        go_wp2_with fail
        go_meet
        exact F
      | false =>
        have F : Aside (∃ d', SL w0 B d' wc ∧ Sort.PermIn a M d1 d' ∧ Sort.SortedIn ltR a M d') := by
          have c1 : ¬ (a < s ∧ s < M) := by have := HT2.out; simp at this; omega
          obtain ⟨S2, Q1, hds, hp1⟩ := D1.out
          exact ⟨d1, S2, pm_refl _ _ _, sorted_join (by omega) Q1.q1 Q1.q2⟩
        clear HI
        go_wp2_with fail
        go_meet
        exact F
    case rest =>
      have D2 : Aside (∃ d', SL w0 B d' wc ∧ Quart ltR M M M en b d' ∧ (∀ i j, a ≤ i → i < M → M ≤ j → j < b → ltR d'[j]! d'[i]! = false) ∧ d'.size = d.size ∧ Sort.PermIn a b d d' ∧ Sort.SortedIn ltR a M d') := by
        obtain ⟨d2, S3, hp2, hs2⟩ := hcut
        obtain ⟨_, Q1, hds, hp1⟩ := D1.out
        obtain ⟨Q2, hx⟩ := Q1.left e2 (by omega) (by omega) hp2
        exact ⟨d2, S3, Q2, hx, by rw [hp2.1, hds], pm_trans hp1 (pm_mono (Nat.le_refl _) (by omega) (by omega) hp2), hs2⟩
      clear hcut D1
      go_step
      exact sym_second N HI B cap a m b M s en d0 d w0 _ hN R hs hb hsz ha1 hb1 m1 m2 e2 e3 e5 e6 D2 _ _ _ _ _ _ _ _ _ _ _ _ _ _ _ _ _ _ _ _ _ _ _ _ _ _ _ _ _ _ _ _ _ _ _ _ _ _ _ _ _ _ _ _ _ _ _ _ _ _ _ _ _ _ _ _ _ _ _ _ _ _ _ _ _ _ _ _ _ _ _ _ _ _ _ _ _ _ _ _ _ _ _ _ _ _ _ _ _ _ _ _ _ _ _ _ _ _ _ _ _ _ _ _ _ _ _ _ _ _ _ _ _ _ _ _ _ _ _ _ _ _ _ _ _ _ _ _ _ _ _ _ _ _ _ _ _ _ _ _ _ _ _ _ _ _ _ _ _ _ _ _ _ _ _ _ _ _ _ _ _ _ _ _ _ _ _ _ _ _ _ _ _ _ _ _ _ _ _ _ _ _ _ _ _ _ _ _ _ _ _ _ _ _ _ _ _ _ _

end Go.Proofs.Ytiglmoggpjgmbaa
