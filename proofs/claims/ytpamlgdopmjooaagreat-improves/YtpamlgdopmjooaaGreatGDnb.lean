import Derived.Test.YtpamlgdopmjooaaGreatGDna
import Derived.StillTailTactics
/- word, value: the document's walks; what is known, as plain functions. -/
namespace Go.Proofs.YtpamlgdopmjooaaGreat.Sc
/-- the word that is known behind an instruction -/
def wordA (x : In) (a : Int) : Int := if x.op = 1 then x.k else if x.op = 4 ∨ x.op = 10 ∨ isTest x.op = true then a else -1
/-- the number that is known along a way -/
def valueA (x : In) (yes : Bool) (a : Int) : Int := if x.op = 2 ∨ (x.op = 11 ∧ yes = true) then x.k else if x.op = 1 ∨ x.op = 3 ∨ a < 0 then -1 else becomes x a
def flow (num : Bool) (x : In) (yes : Bool) (a : Int) : Int := cond num (valueA x yes a) (wordA x a)
def oAt (O : List Int) (n : Nat) : Int := match O[n]? with | some v => v | none => 0
def rAt (B : List Bool) (n : Nat) : Bool := match B[n]? with | some v => v | none => false
def lAt (L : List In) (n : Nat) : In := match L[n]? with | some x => x | none => ⟨0, 0, 0, 0⟩
/-- what comes together from two ways -/
def meet (s : Option Int) (v : Int) : Int := match s with | none => v | some c => if v = c then v else -1
def intoV (L : List In) (B : List Bool) (num : Bool) (O : List Int) (i : Nat) (s : Option Int) (y : Wy) : Option Int :=
  if y.dst = i ∧ rAt B y.src = true then some (meet s (flow num (lAt L y.src) y.yes (oAt O y.src))) else s
def foldV (L : List In) (B : List Bool) (num : Bool) (O : List Int) (i : Nat) (W : List Wy) : Option Int := W.foldl (intoV L B num O i) none
def knownAt (L : List In) (B : List Bool) (num : Bool) (O : List Int) (i : Nat) (W : List Wy) : Int := (foldV L B num O i W).getD 0
/-- what is known ahead of each instruction -/
structure KnownB (L : List In) (B : List Bool) (num : Bool) (O : List Int) : Prop where
  len : O.length = L.length
  first : oAt O 0 = cond num 0 (-1)
  at' : ∀ m, 1 ≤ m → m < L.length → oAt O m = knownAt L B num O m (ways L)
  rng : ∀ m, -1 ≤ oAt O m ∧ oAt O m ≤ 65535
end Go.Proofs.YtpamlgdopmjooaaGreat.Sc
namespace Go.Proofs.YtpamlgdopmjooaaGreat
open Go.RowKit
set_option linter.unusedVariables false
set_option linter.unusedSimpArgs false

set_option maxRecDepth 100000 in
set_option maxHeartbeats 4000000 in
theorem rWord_any (w : World) (x : Sc.In) (a : Int) :
    Calls Tryz.prog 119 #[.agg (inCells x), .int .i64 a] w fun e w' => e = .returned (.int .i64 (Sc.wordA x a)) ∧ w.grownBy w' none := by
  obtain ⟨op, t, f, k⟩ := x
  simp only [inCells]
  have hT := hid (fun w => rTest_any w op)
  have hti := isTest_iff op
  have hv : Hid (Sc.wordA ⟨op, t, f, k⟩ a = if op = 1 then k else if op = 4 ∨ op = 10 ∨ Sc.isTest op = true then a else -1) := rfl
  by_cases q1 : op = 1
  · have hv1 : Hid (Sc.wordA ⟨op, t, f, k⟩ a = k) := by unfold Hid; rw [hv.out, if_pos q1]
    subst q1
    clear hv hti
    go_enter Tryz.func119, Tryz.ntmps119
    go_wp2_with fail
    refine (hT.out _).mono ?_
    rintro e w1 ⟨rfl, rfl⟩
    clear hT
    go_wp2_with fail
    go_ret
    rw [hv1.out]
    exact ⟨rfl, gb_alloc (gb_refl _ _) _⟩
  have e1 : (op == 1) = false := by simp [q1]
  by_cases q4 : op = 4
  · have hv1 : Hid (Sc.wordA ⟨op, t, f, k⟩ a = a) := by unfold Hid; rw [hv.out, if_neg q1, if_pos (Or.inl q4)]
    subst q4
    clear hv hti q1 e1
    go_enter Tryz.func119, Tryz.ntmps119
    go_wp2_with fail
    refine (hT.out _).mono ?_
    rintro e w1 ⟨rfl, rfl⟩
    clear hT
    go_wp2_with fail
    go_ret
    rw [hv1.out]
    exact ⟨rfl, gb_alloc (gb_refl _ _) _⟩
  have e4 : (op == 4) = false := by simp [q4]
  by_cases q10 : op = 10
  · have hv1 : Hid (Sc.wordA ⟨op, t, f, k⟩ a = a) := by unfold Hid; rw [hv.out, if_neg q1, if_pos (Or.inr (Or.inl q10))]
    subst q10
    clear hv hti q1 e1 q4 e4
    go_enter Tryz.func119, Tryz.ntmps119
    go_wp2_with fail
    refine (hT.out _).mono ?_
    rintro e w1 ⟨rfl, rfl⟩
    clear hT
    go_wp2_with fail
    go_ret
    rw [hv1.out]
    exact ⟨rfl, gb_alloc (gb_refl _ _) _⟩
  have e10 : (op == 10) = false := by simp [q10]
  cases ht : Sc.isTest op
  · have hv1 : Hid (Sc.wordA ⟨op, t, f, k⟩ a = -1) := by unfold Hid; rw [hv.out, if_neg q1, if_neg (by simp [q4, q10, ht])]
    rw [ht] at hT
    clear hv hti q1 q4 q10 ht
    go_enter Tryz.func119, Tryz.ntmps119
    go_wp2_with fail
    refine (hT.out _).mono ?_
    rintro e w1 ⟨rfl, rfl⟩
    clear hT
    go_wp2_with fail
    go_ret
    rw [hv1.out]
    exact ⟨rfl, gb_alloc (gb_refl _ _) _⟩
  · have hv1 : Hid (Sc.wordA ⟨op, t, f, k⟩ a = a) := by unfold Hid; rw [hv.out, if_neg q1, if_pos (Or.inr (Or.inr ht))]
    rw [ht] at hT
    clear hv hti q1 q4 q10 ht
    go_enter Tryz.func119, Tryz.ntmps119
    go_wp2_with fail
    refine (hT.out _).mono ?_
    rintro e w1 ⟨rfl, rfl⟩
    clear hT
    go_wp2_with fail
    go_ret
    rw [hv1.out]
    exact ⟨rfl, gb_alloc (gb_refl _ _) _⟩

set_option maxRecDepth 100000 in
set_option maxHeartbeats 4000000 in
theorem rValue_any (w : World) (x : Sc.In) (yes : Bool) (a : Int) (h2 : a ≤ 65535) (h3 : 0 ≤ x.k) (h4 : x.k ≤ 65535) (h8 : x.op = 8 → x.k ≠ 0) (h9 : x.op = 9 → x.k ≤ 15) :
    Calls Tryz.prog 120 #[.agg (inCells x), .bool yes, .int .i64 a] w fun e w' => e = .returned (.int .i64 (Sc.valueA x yes a)) ∧ w.grownBy w' none := by
  have hB := hid (fun (q : 0 ≤ a) w => rBecomes_any w x a q h2 h3 h4 h8 h9)
  obtain ⟨op, t, f, k⟩ := x
  have hv : Hid (Sc.valueA ⟨op, t, f, k⟩ yes a = if op = 2 ∨ (op = 11 ∧ yes = true) then k else if op = 1 ∨ op = 3 ∨ a < 0 then -1 else Sc.becomes ⟨op, t, f, k⟩ a) := rfl
  clear h3 h4 h8 h9
  simp only [inCells] at hB ⊢
  by_cases q2 : op = 2
  · have hv1 : Hid (Sc.valueA ⟨op, t, f, k⟩ yes a = k) := by unfold Hid; rw [hv.out, if_pos (Or.inl q2)]
    subst q2
    clear hv hB
    go_enter Tryz.func120, Tryz.ntmps120
    go_wp2_with fail
    go_ret
    rw [hv1.out]
    exact ⟨rfl, gb_alloc (gb_refl _ _) _⟩
  have e2 : (op == 2) = false := by simp [q2]
  by_cases q11 : op = 11 ∧ yes = true
  · have hv1 : Hid (Sc.valueA ⟨op, t, f, k⟩ yes a = k) := by unfold Hid; rw [hv.out, if_pos (Or.inr q11)]
    obtain ⟨rfl, rfl⟩ := q11
    clear hv hB q2 e2
    go_enter Tryz.func120, Tryz.ntmps120
    go_wp2_with fail
    go_ret
    rw [hv1.out]
    exact ⟨rfl, gb_alloc (gb_refl _ _) _⟩
  have hv2 : Hid (Sc.valueA ⟨op, t, f, k⟩ yes a = if op = 1 ∨ op = 3 ∨ a < 0 then -1 else Sc.becomes ⟨op, t, f, k⟩ a) := by unfold Hid; rw [hv.out, if_neg (by simp only [q2, q11]; simp)]
  by_cases q1 : op = 1
  · have hv1 : Hid (Sc.valueA ⟨op, t, f, k⟩ yes a = -1) := by unfold Hid; rw [hv2.out, if_pos (Or.inl q1)]
    subst q1
    clear hv hv2 hB q2 e2 q11
    go_enter Tryz.func120, Tryz.ntmps120
    go_wp2_with fail
    go_ret
    rw [hv1.out]
    exact ⟨rfl, gb_alloc (gb_refl _ _) _⟩
  have e1 : (op == 1) = false := by simp [q1]
  by_cases q3 : op = 3
  · have hv1 : Hid (Sc.valueA ⟨op, t, f, k⟩ yes a = -1) := by unfold Hid; rw [hv2.out, if_pos (Or.inr (Or.inl q3))]
    subst q3
    clear hv hv2 hB q2 e2 q11 e1 q1
    go_enter Tryz.func120, Tryz.ntmps120
    go_wp2_with fail
    go_ret
    rw [hv1.out]
    exact ⟨rfl, gb_alloc (gb_refl _ _) _⟩
  have e3 : (op == 3) = false := by simp [q3]
  have hyb : ((op == 11) && yes) = false := by
    cases yes
    · simp
    · simp at q11; simp [q11]
  by_cases q0 : a < 0
  · have hv1 : Hid (Sc.valueA ⟨op, t, f, k⟩ yes a = -1) := by unfold Hid; rw [hv2.out, if_pos (Or.inr (Or.inr q0))]
    have hd : decide (a < 0) = true := by simp [q0]
    by_cases o11 : op = 11
    · have : yes = false := by cases yes; rfl; exact absurd ⟨o11, rfl⟩ q11
      subst o11; subst this
      clear hv hv2 hB q2 e2 q11 e1 q1 q3 e3 hyb
      go_enter Tryz.func120, Tryz.ntmps120
      go_wp2_with fail
      go_ret
      rw [hv1.out]
      exact ⟨rfl, gb_alloc (gb_refl _ _) _⟩
    · have e11 : (op == 11) = false := by simp [o11]
      clear hv hv2 hB q2 q11 q1 q3 hyb o11
      go_enter Tryz.func120, Tryz.ntmps120
      go_wp2_with fail
      go_ret
      rw [hv1.out]
      exact ⟨rfl, gb_alloc (gb_refl _ _) _⟩
  · have hv1 : Hid (Sc.valueA ⟨op, t, f, k⟩ yes a = Sc.becomes ⟨op, t, f, k⟩ a) := by unfold Hid; rw [hv2.out, if_neg (by simp only [q1, q3, q0]; simp)]
    have hd : decide (a < 0) = false := by simp [q0]
    have hBB := hid (hB.out (by omega))
    generalize Sc.becomes ⟨op, t, f, k⟩ a = Z at *
    by_cases o11 : op = 11
    · have : yes = false := by cases yes; rfl; exact absurd ⟨o11, rfl⟩ q11
      subst o11; subst this
      clear hv hv2 hB q2 e2 q11 e1 q1 q3 e3 hyb
      go_enter Tryz.func120, Tryz.ntmps120
      go_wp2_with fail
      refine (hBB.out _).mono ?_
      rintro e w1 ⟨rfl, hg⟩
      have Hg := hid hg
      clear hBB hg
      go_wp2_with fail
      go_ret
      rw [hv1.out]
      exact ⟨rfl, gb_unalloc Hg.out⟩
    · have e11 : (op == 11) = false := by simp [o11]
      clear hv hv2 hB q2 q11 q1 q3 hyb o11
      go_enter Tryz.func120, Tryz.ntmps120
      go_wp2_with fail
      refine (hBB.out _).mono ?_
      rintro e w1 ⟨rfl, hg⟩
      have Hg := hid hg
      clear hBB hg
      go_wp2_with fail
      go_ret
      rw [hv1.out]
      exact ⟨rfl, gb_unalloc Hg.out⟩

theorem flow_rng (num : Bool) (x : Sc.In) (y : Bool) (a : Int) (h1 : -1 ≤ a) (h2 : a ≤ 65535) (h3 : 0 ≤ x.k) (h4 : x.k ≤ 65535) : -1 ≤ Sc.flow num x y a ∧ Sc.flow num x y a ≤ 65535 := by
  unfold Sc.flow
  cases num
  · simp only [cond]
    unfold Sc.wordA
    split
    · omega
    · split <;> omega
  · simp only [cond]
    unfold Sc.valueA
    split
    · omega
    · split
      · omega
      · next h =>
        have := becomes_rng x a (by omega) h2 h3 h4
        omega
theorem meet_rng (s : Option Int) (v : Int) (hv : -1 ≤ v ∧ v ≤ 65535) : -1 ≤ Sc.meet s v ∧ Sc.meet s v ≤ 65535 := by
  unfold Sc.meet
  split
  · exact hv
  · split <;> omega
theorem foldV_snoc (L : List Sc.In) (B : List Bool) (num : Bool) (O : List Int) (i : Nat) (W : List Sc.Wy) (y : Sc.Wy) : Sc.foldV L B num O i (W ++ [y]) = Sc.intoV L B num O i (Sc.foldV L B num O i W) y := by
  unfold Sc.foldV; rw [List.foldl_append]; rfl
/-- what is known hangs on what is known ahead alone -/
theorem foldV_congr (L : List Sc.In) (B : List Bool) (num : Bool) (O O' : List Int) (i : Nat) (W : List Sc.Wy) (hW : ∀ y ∈ W, y.src < y.dst) (ho : ∀ n, n < i → Sc.oAt O n = Sc.oAt O' n) : Sc.foldV L B num O i W = Sc.foldV L B num O' i W := by
  unfold Sc.foldV
  have : ∀ (W : List Sc.Wy) (s : Option Int), (∀ y ∈ W, y.src < y.dst) → W.foldl (Sc.intoV L B num O i) s = W.foldl (Sc.intoV L B num O' i) s := by
    intro W
    induction W with
    | nil => intro s _; rfl
    | cons y r ih =>
      intro s h
      simp only [List.foldl_cons]
      have e : Sc.intoV L B num O i s y = Sc.intoV L B num O' i s y := by
        unfold Sc.intoV
        split
        · next q =>
          have := h y (List.mem_cons_self ..)
          rw [ho y.src (by omega)]
        · rfl
      rw [e]
      exact ih _ (fun z hz => h z (List.mem_cons_of_mem _ hz))
  exact this W none hW
theorem oAt_set (O : List Int) (i n : Nat) (v : Int) (hi : i < O.length) : Sc.oAt (O.set i v) n = if i = n then v else Sc.oAt O n := by
  unfold Sc.oAt
  rw [List.getElem?_set]
  by_cases q : i = n
  · subst q; simp [hi]
  · simp [q]
end Go.Proofs.YtpamlgdopmjooaaGreat
/- known: the document's walk. -/
namespace Go.Proofs.YtpamlgdopmjooaaGreat
open Go.RowKit
set_option linter.unusedVariables false
set_option linter.unusedSimpArgs false

theorem iIt_ex : ∃ i, Tryz.prog.info? 3 = some i ∧ i.zero = some (.int .i64 0) ∧ i.size = 1 ∧ i.bytes = 8 := info_ex (by kernel_rfl)
theorem uIts : Tryz.prog.underlying 113 = some (.slice 3) := by kernel_rfl
theorem owns_it {w : World} {base g n cap : Nat} {O : List Int} (hn : n = O.length) (h : w.ownsRow base 3 1 (.slice (some ⟨g, 0, none⟩) n cap) n (O.map (Value.int .i64))) (i : Nat) (hi : i < O.length) : w.cell? ⟨g, i, none⟩ = some (.int .i64 (Sc.oAt O i)) := by
  rw [h.cellAt i (by omega)]
  simp [hi, Sc.oAt]
theorem owns_iset {w : World} {base g n cap : Nat} {O : List Int} (h : w.ownsRow base 3 1 (.slice (some ⟨g, 0, none⟩) n cap) n (O.map (Value.int .i64))) (i : Nat) (v : Int) : (w.setCell ⟨g, i, none⟩ (.int .i64 v)).ownsRow base 3 1 (.slice (some ⟨g, 0, none⟩) n cap) n ((O.set i v).map (Value.int .i64)) := by
  have := (h.stored i (.int .i64 v)).1
  rw [List.map_set]
  exact this
theorem rAt_in (B : List Bool) (i : Nat) (h : i < B.length) : Sc.rAt B i = B[i] := by simp [Sc.rAt, h]
theorem lAt_in (L : List Sc.In) (i : Nat) (h : i < L.length) : Sc.lAt L i = L[i] := by simp [Sc.lAt, h]
theorem take_snoc {α : Type} (W : List α) (j : Nat) (h : j < W.length) : W.take (j + 1) = W.take j ++ [W[j]] := (List.take_append_getElem h).symm

/-- what is known ahead of the first i -/
structure KPre (L : List Sc.In) (B : List Bool) (num : Bool) (WL : List Sc.Wy) (O : List Int) (i : Nat) : Prop where
  first : Sc.oAt O 0 = cond num 0 (-1)
  at' : ∀ m, 1 ≤ m → m < i → Sc.oAt O m = Sc.knownAt L B num O m WL
  later : ∀ m, 1 ≤ m → i ≤ m → Sc.oAt O m = 0
  rng : ∀ m, -1 ≤ Sc.oAt O m ∧ Sc.oAt O m ≤ 65535
theorem KPre.step {L : List Sc.In} {B : List Bool} {num : Bool} {WL : List Sc.Wy} {O : List Int} {i : Nat} (h : KPre L B num WL O i) (h1 : 1 ≤ i) (hi : i < O.length) (hW : ∀ y ∈ WL, y.src < y.dst) {s : Option Int} (hs : s = Sc.foldV L B num O i WL) (hr : -1 ≤ s.getD 0 ∧ s.getD 0 ≤ 65535) : KPre L B num WL (O.set i (s.getD 0)) (i + 1) := by
  have ho : ∀ n, n ≠ i → Sc.oAt (O.set i (s.getD 0)) n = Sc.oAt O n := fun n hn => by rw [oAt_set _ _ _ _ hi, if_neg (Ne.symm hn)]
  have hk : ∀ m, m ≤ i → Sc.knownAt L B num (O.set i (s.getD 0)) m WL = Sc.knownAt L B num O m WL := by
    intro m hm
    unfold Sc.knownAt
    rw [foldV_congr L B num (O.set i (s.getD 0)) O m WL hW (fun n hn => ho n (by omega))]
  refine ⟨by rw [ho 0 (by omega)]; exact h.first, fun m h2 h3 => ?_, fun m h2 h3 => by rw [ho m (by omega)]; exact h.later m h2 (by omega), fun m => ?_⟩
  · rw [hk m (by omega)]
    by_cases q : m = i
    · subst q
      rw [oAt_set _ _ _ _ hi, if_pos rfl, hs]; rfl
    · rw [ho m q]; exact h.at' m h2 (by omega)
  · by_cases q : i = m
    · subst q; rw [oAt_set _ _ _ _ hi, if_pos rfl]; exact hr
    · rw [ho m (Ne.symm q)]; exact h.rng m
theorem set_same (O : List Int) (i : Nat) (h : Sc.oAt O i = 0) (hi : i < O.length) : O.set i ((none : Option Int).getD 0) = O := by
  apply List.ext_getElem (by simp)
  intro n h1 h2
  rw [List.getElem_set]
  split
  · next q =>
    subst q
    unfold Sc.oAt at h
    simp [hi] at h
    simp [h]
  · rfl

set_option maxRecDepth 100000 in
set_option maxHeartbeats 16000000 in
theorem rKnown_any (w : World) (sa : Option Addr) (sc : Nat) (L : List Sc.In) (hI : InsAt w sa L) (hF : Fine L) (hpos : 0 < L.length) (wb : Nat) (wa : Option Addr) (wc : Nat) (hW : w.ownsRow wb 142 3 (.slice wa (Sc.ways L).length wc) (Sc.ways L).length (wysCells (Sc.ways L)))
    (B : List Bool) (hBl : B.length = L.length) (bb bg bc : Nat) (hB : w.ownsRow bb 4 1 (.slice (some ⟨bg, 0, none⟩) L.length bc) L.length (B.map Value.bool)) (num : Bool) :
    Calls Tryz.prog 92 #[.slice sa L.length sc, .slice wa (Sc.ways L).length wc, .slice (some ⟨bg, 0, none⟩) L.length bc, .bool num] w fun e w' => ∃ O, e = .returned (.slice (some ⟨w.heap.size, 0, none⟩) L.length L.length) ∧ w.grownBy w' none ∧ Sc.KnownB L B num O ∧ w'.ownsRow w.heap.size 3 1 (.slice (some ⟨w.heap.size, 0, none⟩) L.length L.length) L.length (O.map (Value.int .i64)) := by
  obtain ⟨iB, iB_e, iB_z, iB_s, iB_b⟩ := iIt_ex
  have iB_eq := hid iB_e
  have hin : ∀ x ∈ Sc.ways L, x.src < x.dst ∧ x.dst < L.length ∧ x.src < L.length := by
    have := ways_in hF L.length (Nat.le_refl _); rw [waysP_all] at this; exact this
  have hwl : (Sc.ways L).length ≤ 2048 := by
    have := waysP_len L L.length (Nat.le_refl _); rw [waysP_all] at this; have := hF.len; omega
  have hle := hF.len
  have HW := hid hW
  have Hin := hid hin
  have HF := hid hF
  have HI := hid hI
  have HB := hid hB
  clear iB_e hF hW hin hI hB
  generalize hWl : Sc.ways L = WL at *
  have HE := hid hWl
  clear hWl
  go_enter Tryz.func92, Tryz.ntmps92
  go_wp2_with (first
    | (at_make; refine wpList_make_full _ rfl _ _ 113 rfl w.heap.size 3 iB (.int .i64 0) 1 uIts iB_eq.out iB_z iB_s _ _ _ _ L.length rfl rfl (by first | rfl | omega) (by first | rfl | omega) (by rw [iB_b]; omega) (by unfold maxLen; omega) (Nat.le_refl _) ?_)
    | fail)
  intro w1 hown1 hgrow1
  have e1 : (madeCells #[Value.int .i64 0] L.length).toList = (List.replicate L.length (0 : Int)).map (Value.int .i64) := by
    rw [toList_madeCells_one]; simp
  rw [e1] at hown1
  have hzl1 := hgrow1.size
  have f0 := hown1.frozenAt 0
  have c0 := owns_it (by simp) hown1 0 (by simpa using hpos)
  have O2 := hid (owns_iset hown1 0 (-1))
  have G2 := hid (gb_own hgrow1 (Nat.le_refl _) 0 (.int .i64 (-1)))
  have fz2 := O2.out.frozenAt 0
  clear hown1 hgrow1 e1
  have hstart : ∃ (O0 : List Int), O0.length = L.length ∧ Sc.oAt O0 0 = cond num 0 (-1) ∧ (∀ m, 1 ≤ m → Sc.oAt O0 m = 0) ∧ O0 = (List.replicate L.length (0 : Int)).set 0 (cond num 0 (-1)) := by
    refine ⟨_, by simp, ?_, ?_, rfl⟩
    · rw [oAt_set _ _ _ _ (by simpa using hpos)]; simp
    · intro m hm
      rw [oAt_set _ _ _ _ (by simpa using hpos), if_neg (by omega)]
      unfold Sc.oAt
      rw [List.getElem?_replicate]
      split
      · next q => split at q <;> cases q <;> rfl
      · rfl
  obtain ⟨O0, hO1, hO2, hO3, hO4⟩ := hstart
  have HO2 := hid hO2
  have HO3 := hid hO3
  have hne : ∀ i, Hid (∀ v, (List.replicate L.length (0 : Int)).set i v = (List.replicate L.length (0 : Int)).set i v) := fun _ _ => rfl
  clear hne
  have OF : Hid (num = false → (w1.setCell ⟨w.heap.size, 0, none⟩ (.int .i64 (-1))).ownsRow w.heap.size 3 1 (.slice (some ⟨w.heap.size, 0, none⟩) L.length L.length) L.length (O0.map (Value.int .i64))) := by
    intro q; subst q; rw [hO4]; exact O2.out
  have OT : Hid (num = true → ((w1.setCell ⟨w.heap.size, 0, none⟩ (.int .i64 (-1))).setCell ⟨w.heap.size, 0, none⟩ (.int .i64 0)).ownsRow w.heap.size 3 1 (.slice (some ⟨w.heap.size, 0, none⟩) L.length L.length) L.length (O0.map (Value.int .i64))) := by
    intro q; subst q; rw [hO4]
    have := owns_iset O2.out 0 0
    rw [List.set_set] at this
    exact this
  have HOr : Hid (∀ m, -1 ≤ Sc.oAt O0 m ∧ Sc.oAt O0 m ≤ 65535) := by
    intro m
    cases m with
    | zero => rw [hO2]; cases num <;> simp
    | succ m => rw [hO3 (m + 1) (by omega)]; omega
  clear hO2 hO3 hO4
  have hcon : ∀ (wx : World), wx.ownsRow w.heap.size 3 1 (.slice (some ⟨w.heap.size, 0, none⟩) L.length L.length) L.length (O0.map (Value.int .i64)) → w.grownBy wx none → True := fun _ _ _ => trivial
  clear hcon
  cases num
  all_goals
    first
      | (have O3 := hid (OF.out rfl)
         have G3 := G2
         clear OF OT)
      | (have O3 := hid (OT.out rfl)
         have G3 := hid (gb_own G2.out (Nat.le_refl _) 0 (.int .i64 0))
         clear OF OT)
    clear O2 G2
    go_wp2_with fail
    clear c0 f0 fz2
  · generalize hw2 : w1.setCell ⟨w.heap.size, 0, none⟩ (.int .i64 (-1)) = w2 at *
    clear hw2
    go_loopw [10] (fun a wr => ∃ (i : Nat) (O : List Int), 1 ≤ i ∧ i ≤ L.length ∧ a = .int .i64 i ∧ O.length = L.length ∧ wr.ownsRow w.heap.size 3 1 (.slice (some ⟨w.heap.size, 0, none⟩) L.length L.length) L.length (O.map (Value.int .i64)) ∧ w.grownBy wr none ∧ Hid (KPre L B false WL O i)) (fun a _ => L.length - (intOf a).toNat)
    case atStart => exact ⟨1, O0, Nat.le_refl _, hpos, rfl, hO1, O3.out, G3.out, ⟨HO2.out, fun m h1 h2 => by omega, fun m h1 _ => HO3.out m h1, HOr.out⟩⟩
    case round =>
      obtain ⟨i, O, hi1, hi, rfl, hOl, hown, hg, hK⟩ := hrel
      have HOw := hid hown
      have HG := hid hg
      clear hown hg O3 G3 HO2 HO3 HOr
      by_cases hlt : i < L.length
      · have hO0 := hK.out.later i hi1 (Nat.le_refl _)
        have hss := hid (set_same O i hO0 (by omega))
        clear hO0
        go_wp2_with fail
        go_loopw [11, 12] (fun a k wr2 => ∃ (j : Nat) (s : Option Int), j ≤ WL.length ∧ k = .int .i64 j ∧ a = .bool s.isSome ∧ wr2.ownsRow w.heap.size 3 1 (.slice (some ⟨w.heap.size, 0, none⟩) L.length L.length) L.length ((O.set i (s.getD 0)).map (Value.int .i64)) ∧ w.grownBy wr2 none ∧ Hid (s = Sc.foldV L B false O i (WL.take j)) ∧ Hid (-1 ≤ s.getD 0 ∧ s.getD 0 ≤ 65535)) (fun _ k _ => WL.length - (intOf k).toNat)
        case atStart => exact ⟨0, none, Nat.zero_le _, rfl, rfl, by rw [hss.out]; exact HOw.out, HG.out, rfl, (by unfold Hid; simp)⟩
        case round =>
          obtain ⟨j, s, hj, rfl, rfl, hown2, hg2, hs2, hr2⟩ := hrel
          have HO2 := hid hown2
          have HG2 := hid hg2
          have hzl := hg2.size
          by_cases hjl : j < WL.length
          · obtain ⟨g, rfl, hgb, hgl, hcell⟩ := owns_wy rfl (kept_none HW.out hg2) j hjl
            have hx := Hin.out WL[j] (List.getElem_mem hjl)
            have hst0 : Hid (Sc.foldV L B false O i (WL.take (j + 1)) = Sc.intoV L B false O i s WL[j]) := by
              unfold Hid; rw [take_snoc WL j hjl, foldV_snoc, ← hs2.out]
            generalize WL[j] = X at *
            obtain ⟨sr, ds, ye⟩ := X
            have t0 := hcell 0 (by omega)
            have t1 := hcell 1 (by omega)
            have t2 := hcell 2 (by omega)
            simp [wyCells] at t0 t1 t2
            simp only at hx
            have hsr : sr < L.length := by omega
            have q1 : (sr : Int) < (L.length : Int) := by omega
            have XB := hid (Blk.new wr 142 #[.int .i64 (sr : Int), .int .i64 (ds : Int), .bool ye])
            have Ho3 := hid (HO2.out.alloc (.cells #[.int .i64 (sr : Int), .int .i64 (ds : Int), .bool ye] 142))
            have Hg3 := hid (gb_alloc HG2.out (.cells #[.int .i64 (sr : Int), .int .i64 (ds : Int), .bool ye] 142))
            clear hcell
            by_cases qd : i = ds
            · subst qd
              have hbg := ((kept_none HB.out hg2).lt bg rfl).2
              have hwg := (hown2.lt w.heap.size rfl).2
              have hcb := owns_bool hBl.symm (kept_none HB.out hg2) sr (by omega)
              cases b1 : B[sr]
              · rw [b1] at hcb
                have hs3 : Hid (s = Sc.foldV L B false O i (WL.take (j + 1))) := by
                  unfold Hid; rw [hst0.out]; unfold Sc.intoV; rw [if_neg]; rw [rAt_in B sr (by omega), b1]; simp
                clear hst0 hown2 hg2 hs2 hK hss HOw XB
                go_wp2_with fail
                go_roundw
                case rel => exact ⟨j + 1, s, by omega, by go_num, rfl, Ho3.out, Hg3.out, hs3, hr2⟩
                case measure => simp [intOf]; omega
              · rw [b1] at hcb
                obtain ⟨b, off, rfl, hb, hcl⟩ := (HI.out.keep hg2) sr hsr
                have u0 := hcl 0 (by omega)
                have u1 := hcl 1 (by omega)
                have u2 := hcl 2 (by omega)
                have u3 := hcl 3 (by omega)
                have hxr := HF.out.rng sr hsr
                have hdv := HF.out.div sr hsr
                have hsh := HF.out.shift sr hsr
                have elA := lAt_in L sr hsr
                have hro := hK.out.rng sr
                have ci := owns_it (by simp [hOl]) hown2 i (by simp; omega)
                have cs := owns_it (by simp [hOl]) hown2 sr (by simp; omega)
                rw [oAt_set _ _ _ _ (by omega), if_pos rfl] at ci
                rw [oAt_set _ _ _ _ (by omega), if_neg (by omega)] at cs
                have fzi := hown2.frozenAt
                have hsi : Hid (Sc.oAt (O.set i (s.getD 0)) i = s.getD 0) := by unfold Hid; rw [oAt_set _ _ _ _ (by omega), if_pos rfl]
                have hsome : Hid (Sc.foldV L B false O i (WL.take (j + 1)) = some (Sc.meet s (Sc.flow false (Sc.lAt L sr) ye (Sc.oAt O sr)))) := by
                  unfold Hid; rw [hst0.out]; unfold Sc.intoV; rw [if_pos ⟨rfl, by rw [rAt_in B sr (by omega), b1]⟩]
                rw [elA] at hsome
                have hIr : Hid (∀ W, w.grownBy W none → ∀ j, j < 4 → W.cell? ⟨b, off + sr * 4 + j, none⟩ = (inCells L[sr])[j]?) := by
                  intro W hW
                  obtain ⟨b', off', e1, _, h⟩ := (HI.out.keep hW) sr hsr
                  injection e1 with e1
                  injection e1 with e1 e2
                  subst e1; subst e2
                  exact h
                have hcs : Hid (∀ W : World, W.ownsRow w.heap.size 3 1 (.slice (some ⟨w.heap.size, 0, none⟩) L.length L.length) L.length ((O.set i (s.getD 0)).map (Value.int .i64)) → W.cell? ⟨w.heap.size, sr, none⟩ = some (.int .i64 (Sc.oAt O sr))) := by
                  intro W hW
                  have := owns_it (by simp [hOl]) hW sr (by simp; omega)
                  rw [oAt_set _ _ _ _ (by omega), if_neg (by omega)] at this
                  exact this
                clear hsi
                generalize L[sr] = Y at *
                generalize Sc.oAt O sr = A at *
                have hfr := flow_rng false Y ye A hro.1 hro.2 hxr.2.2.2.2.2.2.1 hxr.2.2.2.2.2.2.2
                have hWd := hid (fun w => rWord_any w Y A)
                have hVl := hid (fun w => rValue_any w Y ye A hro.2 hxr.2.2.2.2.2.2.1 hxr.2.2.2.2.2.2.2 hdv hsh)
                obtain ⟨op, ti, fi, ki⟩ := Y
                simp only [inCells] at hWd hVl u0 u1 u2 u3
                simp at u0 u1 u2 u3
                clear hcl u0 u1 u2 u3 ci cs fzi hst0 hown2 hg2 hs2 hK hss HOw hro hxr hdv hsh elA
                have hs3 : Hid (some (Sc.meet s (Sc.flow false ⟨op, ti, fi, ki⟩ ye A)) = Sc.foldV L B false O i (WL.take (j + 1))) := hsome.out.symm
                have hr3 : Hid (-1 ≤ (some (Sc.meet s (Sc.flow false ⟨op, ti, fi, ki⟩ ye A))).getD 0 ∧ (some (Sc.meet s (Sc.flow false ⟨op, ti, fi, ki⟩ ye A))).getD 0 ≤ 65535) := meet_rng _ _ hfr
                clear hsome hfr hr2
                have HN : Hid (∀ (W W' : World), W.grownBy W' none → W.grownBy ({ W' with drawn := W'.drawn + 1 } : World) none) := fun W W' h => gb_drew h
                go_wp2_with fail
                generalize wr.alloc (.cells #[.int .i64 (sr : Int), .int .i64 (i : Int), .bool ye] 142) = Wa at *
                have XBd : Hid (Blk ({ Wa with drawn := Wa.drawn + 1 } : World) wr.heap.size 142 #[.int .i64 (sr : Int), .int .i64 (i : Int), .bool ye]) := XB.out
                have Hod : Hid (({ Wa with drawn := Wa.drawn + 1 } : World).ownsRow w.heap.size 3 1 (.slice (some ⟨w.heap.size, 0, none⟩) L.length L.length) L.length ((O.set i (s.getD 0)).map (Value.int .i64))) := Ho3.out.drew
                have Hgd : Hid (w.grownBy ({ Wa with drawn := Wa.drawn + 1 } : World) none) := gb_drew Hg3.out
                refine wp_region_still_tail 10 (by kernel_rfl) (by kernel_rfl) ?_
                clear XB Ho3 Hg3
                generalize ({ Wa with drawn := Wa.drawn + 1 } : World) = Wd at *
                have y0 := XBd.out.cell 0
                have y2 := XBd.out.cell 2
                simp at y0 y2
                have hcl := hIr.out Wd Hgd.out
                have u0 := hcl 0 (by omega)
                have u1 := hcl 1 (by omega)
                have u2 := hcl 2 (by omega)
                have u3 := hcl 3 (by omega)
                simp [inCells] at u0 u1 u2 u3
                have cs := hcs.out Wd Hod.out
                clear hcl
                simp only [List.take_succ_cons, List.take_zero, List.drop_succ_cons, List.drop_zero]
                repeat still_step
                try refine wpStill_nil ?_
                clear y0 y2 u0 u1 u2 u3 cs
                go_wp2_with fail
                refine (hWd.out _).mono ?_
                rintro e w3 ⟨rfl, hg3⟩
                have XB3 := hid (XBd.out.keep hg3 (by simp))
                have Ho4 := hid (kept_none Hod.out hg3)
                have Hg4 := hid (gb_trans Hgd.out hg3)
                clear hg3 XBd Hod Hgd hWd

                have ef : Sc.wordA ⟨op, ti, fi, ki⟩ A = Sc.flow false ⟨op, ti, fi, ki⟩ ye A := rfl
                rw [ef]
                clear ef hVl
                have ci := owns_it (by simp [hOl]) Ho4.out i (by simp; omega)
                rw [oAt_set _ _ _ _ (by omega), if_pos rfl] at ci
                have fzi := Ho4.out.frozenAt
                generalize Sc.flow false ⟨op, ti, fi, ki⟩ ye A = V at *
                cases s with
                | none =>
                  have hs4 : Hid (some V = Sc.foldV L B false O i (WL.take (j + 1))) := hs3
                  have hr4 : Hid (-1 ≤ (some V).getD 0 ∧ (some V).getD 0 ≤ 65535) := hr3
                  have O9 : Hid ((w3.setCell ⟨w.heap.size, i, none⟩ (.int .i64 V)).ownsRow w.heap.size 3 1 (.slice (some ⟨w.heap.size, 0, none⟩) L.length L.length) L.length ((O.set i ((some V).getD 0)).map (Value.int .i64))) := by
                    have h := owns_iset Ho4.out i V
                    rw [List.set_set] at h
                    exact h
                  have G9 := hid (gb_own Hg4.out (Nat.le_refl w.heap.size) i (.int .i64 V))
                  clear hs3 hr3 Ho4 Hg4
                  go_wp2_with fail
                  go_roundw
                  case rel => exact ⟨j + 1, some V, by omega, by go_num, rfl, O9.out, G9.out, hs4, hr4⟩
                  case measure => simp [intOf]; omega
                | some c =>
                  simp only [Option.getD_some] at ci
                  by_cases qc : V = c
                  · subst qc
                    have hm : Sc.meet (some V) V = V := by simp [Sc.meet]
                    have hs4 : Hid (some V = Sc.foldV L B false O i (WL.take (j + 1))) := by have := hs3.out; rw [hm] at this; exact this
                    have hr4 : Hid (-1 ≤ (some V).getD 0 ∧ (some V).getD 0 ≤ 65535) := by have := hr3.out; rw [hm] at this; exact this
                    have O9 : Hid ((w3.setCell ⟨w.heap.size, i, none⟩ (.int .i64 V)).ownsRow w.heap.size 3 1 (.slice (some ⟨w.heap.size, 0, none⟩) L.length L.length) L.length ((O.set i ((some V).getD 0)).map (Value.int .i64))) := by
                      have h := owns_iset Ho4.out i V
                      rw [List.set_set] at h
                      exact h
                    have G9 := hid (gb_own Hg4.out (Nat.le_refl w.heap.size) i (.int .i64 V))
                    have ev : (V != V) = false := by simp
                    clear hs3 hr3 Ho4 Hg4 hm
                    go_wp2_with fail
                    go_roundw
                    case rel => exact ⟨j + 1, some V, by omega, by go_num, rfl, O9.out, G9.out, hs4, hr4⟩
                    case measure => simp [intOf]; omega
                  · have hm : Sc.meet (some c) V = -1 := by simp [Sc.meet, qc]
                    have hs4 : Hid (some (-1) = Sc.foldV L B false O i (WL.take (j + 1))) := by have := hs3.out; rw [hm] at this; exact this
                    have hr4 : Hid (-1 ≤ (some (-1 : Int)).getD 0 ∧ (some (-1 : Int)).getD 0 ≤ 65535) := by have := hr3.out; rw [hm] at this; exact this
                    have O9 : Hid ((w3.setCell ⟨w.heap.size, i, none⟩ (.int .i64 (-1))).ownsRow w.heap.size 3 1 (.slice (some ⟨w.heap.size, 0, none⟩) L.length L.length) L.length ((O.set i ((some (-1 : Int)).getD 0)).map (Value.int .i64))) := by
                      have h := owns_iset Ho4.out i (-1)
                      rw [List.set_set] at h
                      exact h
                    have G9 := hid (gb_own Hg4.out (Nat.le_refl w.heap.size) i (.int .i64 (-1)))
                    have ev : (V != c) = true := by simp [qc]
                    clear hs3 hr3 Ho4 Hg4 hm qc
                    go_wp2_with fail
                    go_roundw
                    case rel => exact ⟨j + 1, some (-1), by omega, by go_num, rfl, O9.out, G9.out, hs4, hr4⟩
                    case measure => simp [intOf]; omega
            · have e1 : ((ds : Int) != (i : Int)) = true := by simp; omega
              have hs3 : Hid (s = Sc.foldV L B false O i (WL.take (j + 1))) := by
                unfold Hid; rw [hst0.out]; unfold Sc.intoV; rw [if_neg]; intro h; exact qd h.1.symm
              clear hst0 hown2 hg2 hs2 hK hss HOw XB qd
              go_wp2_with fail
              go_roundw
              case rel => exact ⟨j + 1, s, by omega, by go_num, rfl, Ho3.out, Hg3.out, hs3, hr2⟩
              case measure => simp [intOf]; omega
          · have hjn : j = WL.length := by omega
            subst hjn
            rw [List.take_length] at hs2
            have hK2 := hid (hK.out.step hi1 (by omega) (fun y hy => (Hin.out y hy).1) hs2.out hr2.out)
            clear hown2 hg2 hs2 hr2 hK hss HOw
            go_wp2_with fail
            go_roundw
            case rel => exact ⟨i + 1, O.set i (s.getD 0), by omega, by omega, by go_num, by simp [hOl], HO2.out, HG2.out, hK2.out⟩
            case measure => simp [intOf]; omega
      · have hin : i = L.length := by omega
        subst hin
        clear hlt
        go_wp2_with fail
        go_ret
        refine ⟨O, rfl, HG.out, ⟨hOl, hK.out.first, fun m h1 h2 => ?_, hK.out.rng⟩, HOw.out⟩
        rw [HE.out]
        exact hK.out.at' m h1 h2
  · generalize hw2 : (w1.setCell ⟨w.heap.size, 0, none⟩ (.int .i64 (-1))).setCell ⟨w.heap.size, 0, none⟩ (.int .i64 0) = w2 at *
    clear hw2
    go_loopw [10] (fun a wr => ∃ (i : Nat) (O : List Int), 1 ≤ i ∧ i ≤ L.length ∧ a = .int .i64 i ∧ O.length = L.length ∧ wr.ownsRow w.heap.size 3 1 (.slice (some ⟨w.heap.size, 0, none⟩) L.length L.length) L.length (O.map (Value.int .i64)) ∧ w.grownBy wr none ∧ Hid (KPre L B true WL O i)) (fun a _ => L.length - (intOf a).toNat)
    case atStart => exact ⟨1, O0, Nat.le_refl _, hpos, rfl, hO1, O3.out, G3.out, ⟨HO2.out, fun m h1 h2 => by omega, fun m h1 _ => HO3.out m h1, HOr.out⟩⟩
    case round =>
      obtain ⟨i, O, hi1, hi, rfl, hOl, hown, hg, hK⟩ := hrel
      have HOw := hid hown
      have HG := hid hg
      clear hown hg O3 G3 HO2 HO3 HOr
      by_cases hlt : i < L.length
      · have hO0 := hK.out.later i hi1 (Nat.le_refl _)
        have hss := hid (set_same O i hO0 (by omega))
        clear hO0
        go_wp2_with fail
        go_loopw [11, 12] (fun a k wr2 => ∃ (j : Nat) (s : Option Int), j ≤ WL.length ∧ k = .int .i64 j ∧ a = .bool s.isSome ∧ wr2.ownsRow w.heap.size 3 1 (.slice (some ⟨w.heap.size, 0, none⟩) L.length L.length) L.length ((O.set i (s.getD 0)).map (Value.int .i64)) ∧ w.grownBy wr2 none ∧ Hid (s = Sc.foldV L B true O i (WL.take j)) ∧ Hid (-1 ≤ s.getD 0 ∧ s.getD 0 ≤ 65535)) (fun _ k _ => WL.length - (intOf k).toNat)
        case atStart => exact ⟨0, none, Nat.zero_le _, rfl, rfl, by rw [hss.out]; exact HOw.out, HG.out, rfl, (by unfold Hid; simp)⟩
        case round =>
          obtain ⟨j, s, hj, rfl, rfl, hown2, hg2, hs2, hr2⟩ := hrel
          have HO2 := hid hown2
          have HG2 := hid hg2
          have hzl := hg2.size
          by_cases hjl : j < WL.length
          · obtain ⟨g, rfl, hgb, hgl, hcell⟩ := owns_wy rfl (kept_none HW.out hg2) j hjl
            have hx := Hin.out WL[j] (List.getElem_mem hjl)
            have hst0 : Hid (Sc.foldV L B true O i (WL.take (j + 1)) = Sc.intoV L B true O i s WL[j]) := by
              unfold Hid; rw [take_snoc WL j hjl, foldV_snoc, ← hs2.out]
            generalize WL[j] = X at *
            obtain ⟨sr, ds, ye⟩ := X
            have t0 := hcell 0 (by omega)
            have t1 := hcell 1 (by omega)
            have t2 := hcell 2 (by omega)
            simp [wyCells] at t0 t1 t2
            simp only at hx
            have hsr : sr < L.length := by omega
            have q1 : (sr : Int) < (L.length : Int) := by omega
            have XB := hid (Blk.new wr 142 #[.int .i64 (sr : Int), .int .i64 (ds : Int), .bool ye])
            have Ho3 := hid (HO2.out.alloc (.cells #[.int .i64 (sr : Int), .int .i64 (ds : Int), .bool ye] 142))
            have Hg3 := hid (gb_alloc HG2.out (.cells #[.int .i64 (sr : Int), .int .i64 (ds : Int), .bool ye] 142))
            clear hcell
            by_cases qd : i = ds
            · subst qd
              have hbg := ((kept_none HB.out hg2).lt bg rfl).2
              have hwg := (hown2.lt w.heap.size rfl).2
              have hcb := owns_bool hBl.symm (kept_none HB.out hg2) sr (by omega)
              cases b1 : B[sr]
              · rw [b1] at hcb
                have hs3 : Hid (s = Sc.foldV L B true O i (WL.take (j + 1))) := by
                  unfold Hid; rw [hst0.out]; unfold Sc.intoV; rw [if_neg]; rw [rAt_in B sr (by omega), b1]; simp
                clear hst0 hown2 hg2 hs2 hK hss HOw XB
                go_wp2_with fail
                go_roundw
                case rel => exact ⟨j + 1, s, by omega, by go_num, rfl, Ho3.out, Hg3.out, hs3, hr2⟩
                case measure => simp [intOf]; omega
              · rw [b1] at hcb
                obtain ⟨b, off, rfl, hb, hcl⟩ := (HI.out.keep hg2) sr hsr
                have u0 := hcl 0 (by omega)
                have u1 := hcl 1 (by omega)
                have u2 := hcl 2 (by omega)
                have u3 := hcl 3 (by omega)
                have hxr := HF.out.rng sr hsr
                have hdv := HF.out.div sr hsr
                have hsh := HF.out.shift sr hsr
                have elA := lAt_in L sr hsr
                have hro := hK.out.rng sr
                have ci := owns_it (by simp [hOl]) hown2 i (by simp; omega)
                have cs := owns_it (by simp [hOl]) hown2 sr (by simp; omega)
                rw [oAt_set _ _ _ _ (by omega), if_pos rfl] at ci
                rw [oAt_set _ _ _ _ (by omega), if_neg (by omega)] at cs
                have fzi := hown2.frozenAt
                have hsi : Hid (Sc.oAt (O.set i (s.getD 0)) i = s.getD 0) := by unfold Hid; rw [oAt_set _ _ _ _ (by omega), if_pos rfl]
                have hsome : Hid (Sc.foldV L B true O i (WL.take (j + 1)) = some (Sc.meet s (Sc.flow true (Sc.lAt L sr) ye (Sc.oAt O sr)))) := by
                  unfold Hid; rw [hst0.out]; unfold Sc.intoV; rw [if_pos ⟨rfl, by rw [rAt_in B sr (by omega), b1]⟩]
                rw [elA] at hsome
                have hIr : Hid (∀ W, w.grownBy W none → ∀ j, j < 4 → W.cell? ⟨b, off + sr * 4 + j, none⟩ = (inCells L[sr])[j]?) := by
                  intro W hW
                  obtain ⟨b', off', e1, _, h⟩ := (HI.out.keep hW) sr hsr
                  injection e1 with e1
                  injection e1 with e1 e2
                  subst e1; subst e2
                  exact h
                have hcs : Hid (∀ W : World, W.ownsRow w.heap.size 3 1 (.slice (some ⟨w.heap.size, 0, none⟩) L.length L.length) L.length ((O.set i (s.getD 0)).map (Value.int .i64)) → W.cell? ⟨w.heap.size, sr, none⟩ = some (.int .i64 (Sc.oAt O sr))) := by
                  intro W hW
                  have := owns_it (by simp [hOl]) hW sr (by simp; omega)
                  rw [oAt_set _ _ _ _ (by omega), if_neg (by omega)] at this
                  exact this
                clear hsi
                generalize L[sr] = Y at *
                generalize Sc.oAt O sr = A at *
                have hfr := flow_rng true Y ye A hro.1 hro.2 hxr.2.2.2.2.2.2.1 hxr.2.2.2.2.2.2.2
                have hWd := hid (fun w => rWord_any w Y A)
                have hVl := hid (fun w => rValue_any w Y ye A hro.2 hxr.2.2.2.2.2.2.1 hxr.2.2.2.2.2.2.2 hdv hsh)
                obtain ⟨op, ti, fi, ki⟩ := Y
                simp only [inCells] at hWd hVl u0 u1 u2 u3
                simp at u0 u1 u2 u3
                clear hcl u0 u1 u2 u3 ci cs fzi hst0 hown2 hg2 hs2 hK hss HOw hro hxr hdv hsh elA
                have hs3 : Hid (some (Sc.meet s (Sc.flow true ⟨op, ti, fi, ki⟩ ye A)) = Sc.foldV L B true O i (WL.take (j + 1))) := hsome.out.symm
                have hr3 : Hid (-1 ≤ (some (Sc.meet s (Sc.flow true ⟨op, ti, fi, ki⟩ ye A))).getD 0 ∧ (some (Sc.meet s (Sc.flow true ⟨op, ti, fi, ki⟩ ye A))).getD 0 ≤ 65535) := meet_rng _ _ hfr
                clear hsome hfr hr2
                have HN : Hid (∀ (W W' : World), W.grownBy W' none → W.grownBy ({ W' with drawn := W'.drawn + 1 } : World) none) := fun W W' h => gb_drew h
                go_wp2_with fail
                generalize wr.alloc (.cells #[.int .i64 (sr : Int), .int .i64 (i : Int), .bool ye] 142) = Wa at *
                have XBd : Hid (Blk ({ Wa with drawn := Wa.drawn + 1 } : World) wr.heap.size 142 #[.int .i64 (sr : Int), .int .i64 (i : Int), .bool ye]) := XB.out
                have Hod : Hid (({ Wa with drawn := Wa.drawn + 1 } : World).ownsRow w.heap.size 3 1 (.slice (some ⟨w.heap.size, 0, none⟩) L.length L.length) L.length ((O.set i (s.getD 0)).map (Value.int .i64))) := Ho3.out.drew
                have Hgd : Hid (w.grownBy ({ Wa with drawn := Wa.drawn + 1 } : World) none) := gb_drew Hg3.out
                refine wp_region_still_tail 10 (by kernel_rfl) (by kernel_rfl) ?_
                clear XB Ho3 Hg3
                generalize ({ Wa with drawn := Wa.drawn + 1 } : World) = Wd at *
                have y0 := XBd.out.cell 0
                have y2 := XBd.out.cell 2
                simp at y0 y2
                have hcl := hIr.out Wd Hgd.out
                have u0 := hcl 0 (by omega)
                have u1 := hcl 1 (by omega)
                have u2 := hcl 2 (by omega)
                have u3 := hcl 3 (by omega)
                simp [inCells] at u0 u1 u2 u3
                have cs := hcs.out Wd Hod.out
                clear hcl
                simp only [List.take_succ_cons, List.take_zero, List.drop_succ_cons, List.drop_zero]
                repeat still_step
                try refine wpStill_nil ?_
                clear y0 y2 u0 u1 u2 u3 cs
                go_wp2_with fail
                refine (hWd.out _).mono ?_
                rintro e w2a ⟨rfl, hg3⟩
                have XB2 := hid (XBd.out.keep hg3 (by simp))
                have Ho2 := hid (kept_none Hod.out hg3)
                have Hg2 := hid (gb_trans Hgd.out hg3)
                clear hg3 XBd Hod Hgd hWd
                go_wp2_with fail
                have XBd : Hid (Blk ({ w2a with drawn := w2a.drawn + 1 } : World) wr.heap.size 142 #[.int .i64 (sr : Int), .int .i64 (i : Int), .bool ye]) := XB2.out
                have Hod : Hid (({ w2a with drawn := w2a.drawn + 1 } : World).ownsRow w.heap.size 3 1 (.slice (some ⟨w.heap.size, 0, none⟩) L.length L.length) L.length ((O.set i (s.getD 0)).map (Value.int .i64))) := Ho2.out.drew
                have Hgd : Hid (w.grownBy ({ w2a with drawn := w2a.drawn + 1 } : World) none) := gb_drew Hg2.out
                refine wp_region_still_tail 12 (by kernel_rfl) (by kernel_rfl) ?_
                clear XB2 Ho2 Hg2
                generalize ({ w2a with drawn := w2a.drawn + 1 } : World) = Wd at *
                have y0 := XBd.out.cell 0
                have y2 := XBd.out.cell 2
                simp at y0 y2
                have hcl := hIr.out Wd Hgd.out
                have u0 := hcl 0 (by omega)
                have u1 := hcl 1 (by omega)
                have u2 := hcl 2 (by omega)
                have u3 := hcl 3 (by omega)
                simp [inCells] at u0 u1 u2 u3
                have cs := hcs.out Wd Hod.out
                clear hcl
                simp only [List.take_succ_cons, List.take_zero, List.drop_succ_cons, List.drop_zero]
                repeat still_step
                try refine wpStill_nil ?_
                clear y0 y2 u0 u1 u2 u3 cs
                go_wp2_with fail
                refine (hVl.out _).mono ?_
                rintro e w3 ⟨rfl, hg3⟩
                have XB3 := hid (XBd.out.keep hg3 (by simp))
                have Ho4 := hid (kept_none Hod.out hg3)
                have Hg4 := hid (gb_trans Hgd.out hg3)
                clear hg3 XBd Hod Hgd hVl

                have ef : Sc.valueA ⟨op, ti, fi, ki⟩ ye A = Sc.flow true ⟨op, ti, fi, ki⟩ ye A := rfl
                rw [ef]
                clear ef
                have ci := owns_it (by simp [hOl]) Ho4.out i (by simp; omega)
                rw [oAt_set _ _ _ _ (by omega), if_pos rfl] at ci
                have fzi := Ho4.out.frozenAt
                generalize Sc.flow true ⟨op, ti, fi, ki⟩ ye A = V at *
                cases s with
                | none =>
                  have hs4 : Hid (some V = Sc.foldV L B true O i (WL.take (j + 1))) := hs3
                  have hr4 : Hid (-1 ≤ (some V).getD 0 ∧ (some V).getD 0 ≤ 65535) := hr3
                  have O9 : Hid ((w3.setCell ⟨w.heap.size, i, none⟩ (.int .i64 V)).ownsRow w.heap.size 3 1 (.slice (some ⟨w.heap.size, 0, none⟩) L.length L.length) L.length ((O.set i ((some V).getD 0)).map (Value.int .i64))) := by
                    have h := owns_iset Ho4.out i V
                    rw [List.set_set] at h
                    exact h
                  have G9 := hid (gb_own Hg4.out (Nat.le_refl w.heap.size) i (.int .i64 V))
                  clear hs3 hr3 Ho4 Hg4
                  go_wp2_with fail
                  go_roundw
                  case rel => exact ⟨j + 1, some V, by omega, by go_num, rfl, O9.out, G9.out, hs4, hr4⟩
                  case measure => simp [intOf]; omega
                | some c =>
                  simp only [Option.getD_some] at ci
                  by_cases qc : V = c
                  · subst qc
                    have hm : Sc.meet (some V) V = V := by simp [Sc.meet]
                    have hs4 : Hid (some V = Sc.foldV L B true O i (WL.take (j + 1))) := by have := hs3.out; rw [hm] at this; exact this
                    have hr4 : Hid (-1 ≤ (some V).getD 0 ∧ (some V).getD 0 ≤ 65535) := by have := hr3.out; rw [hm] at this; exact this
                    have O9 : Hid ((w3.setCell ⟨w.heap.size, i, none⟩ (.int .i64 V)).ownsRow w.heap.size 3 1 (.slice (some ⟨w.heap.size, 0, none⟩) L.length L.length) L.length ((O.set i ((some V).getD 0)).map (Value.int .i64))) := by
                      have h := owns_iset Ho4.out i V
                      rw [List.set_set] at h
                      exact h
                    have G9 := hid (gb_own Hg4.out (Nat.le_refl w.heap.size) i (.int .i64 V))
                    have ev : (V != V) = false := by simp
                    clear hs3 hr3 Ho4 Hg4 hm
                    go_wp2_with fail
                    go_roundw
                    case rel => exact ⟨j + 1, some V, by omega, by go_num, rfl, O9.out, G9.out, hs4, hr4⟩
                    case measure => simp [intOf]; omega
                  · have hm : Sc.meet (some c) V = -1 := by simp [Sc.meet, qc]
                    have hs4 : Hid (some (-1) = Sc.foldV L B true O i (WL.take (j + 1))) := by have := hs3.out; rw [hm] at this; exact this
                    have hr4 : Hid (-1 ≤ (some (-1 : Int)).getD 0 ∧ (some (-1 : Int)).getD 0 ≤ 65535) := by have := hr3.out; rw [hm] at this; exact this
                    have O9 : Hid ((w3.setCell ⟨w.heap.size, i, none⟩ (.int .i64 (-1))).ownsRow w.heap.size 3 1 (.slice (some ⟨w.heap.size, 0, none⟩) L.length L.length) L.length ((O.set i ((some (-1 : Int)).getD 0)).map (Value.int .i64))) := by
                      have h := owns_iset Ho4.out i (-1)
                      rw [List.set_set] at h
                      exact h
                    have G9 := hid (gb_own Hg4.out (Nat.le_refl w.heap.size) i (.int .i64 (-1)))
                    have ev : (V != c) = true := by simp [qc]
                    clear hs3 hr3 Ho4 Hg4 hm qc
                    go_wp2_with fail
                    go_roundw
                    case rel => exact ⟨j + 1, some (-1), by omega, by go_num, rfl, O9.out, G9.out, hs4, hr4⟩
                    case measure => simp [intOf]; omega
            · have e1 : ((ds : Int) != (i : Int)) = true := by simp; omega
              have hs3 : Hid (s = Sc.foldV L B true O i (WL.take (j + 1))) := by
                unfold Hid; rw [hst0.out]; unfold Sc.intoV; rw [if_neg]; intro h; exact qd h.1.symm
              clear hst0 hown2 hg2 hs2 hK hss HOw XB qd
              go_wp2_with fail
              go_roundw
              case rel => exact ⟨j + 1, s, by omega, by go_num, rfl, Ho3.out, Hg3.out, hs3, hr2⟩
              case measure => simp [intOf]; omega
          · have hjn : j = WL.length := by omega
            subst hjn
            rw [List.take_length] at hs2
            have hK2 := hid (hK.out.step hi1 (by omega) (fun y hy => (Hin.out y hy).1) hs2.out hr2.out)
            clear hown2 hg2 hs2 hr2 hK hss HOw
            go_wp2_with fail
            go_roundw
            case rel => exact ⟨i + 1, O.set i (s.getD 0), by omega, by omega, by go_num, by simp [hOl], HO2.out, HG2.out, hK2.out⟩
            case measure => simp [intOf]; omega
      · have hin : i = L.length := by omega
        subst hin
        clear hlt
        go_wp2_with fail
        go_ret
        refine ⟨O, rfl, HG.out, ⟨hOl, hK.out.first, fun m h1 h2 => ?_, hK.out.rng⟩, HOw.out⟩
        rw [HE.out]
        exact hK.out.at' m h1 h2
end Go.Proofs.YtpamlgdopmjooaaGreat
/- Done: the document's walk. -/
namespace Go.Proofs.YtpamlgdopmjooaaGreat.Sc
/-- is the instruction i done by d, l or k? -/
def okAt (p : Int) (B : List Bool) (O : List Int) (i : Nat) (x : In) : Bool :=
  !((p == 100 && !rAt B i) || (p == 108 && rAt B i && x.op == 1 && oAt O i == x.k) || (p == 107 && rAt B i && (isTest x.op || x.op == 16) && decide (0 ≤ oAt O i)))
/-- is the list done by d, l or k? -/
def doneBy (p : Int) (L : List In) (B : List Bool) (O : List Int) : Prop := ∀ i, i < L.length → okAt p B O i (lAt L i) = true
end Go.Proofs.YtpamlgdopmjooaaGreat.Sc
namespace Go.Proofs.YtpamlgdopmjooaaGreat
open Go.RowKit
set_option linter.unusedVariables false
set_option linter.unusedSimpArgs false

/-- how Done ends -/
def DoneEnd (p : Int) (L : List Sc.In) (w : World) (e : Ending) (w' : World) : Prop :=
  ∃ r B O, e = .returned (.bool r) ∧ w.grownBy w' none ∧ ReachB L B ∧ Sc.KnownB L B (p == 107) O ∧ (r = true ↔ Sc.doneBy p L B O)

set_option maxRecDepth 100000 in
set_option maxHeartbeats 4000000 in
theorem rDone_j (w : World) (sa : Option Addr) (sc : Nat) (L : List Sc.In) (hI : InsAt w sa L) (hF : Fine L) :
    Calls Tryz.prog 73 #[.slice sa L.length sc, .int .u8 106] w fun e w' => e = .returned (.bool (Sc.tidyB L)) ∧ w.grownBy w' none := by
  have hT := hid (rTidy_any w sa sc L hI hF)
  clear hI hF
  go_enter Tryz.func73, Tryz.ntmps73
  go_wp2_with fail
  refine hT.out.mono ?_
  rintro e w1 ⟨rfl, hg⟩
  have HG := hid hg
  clear hT hg
  go_wp2_with fail
  go_ret
  exact ⟨rfl, HG.out⟩

set_option maxRecDepth 100000 in
set_option maxHeartbeats 16000000 in
theorem rDone_100 (w : World) (sa : Option Addr) (sc : Nat) (L : List Sc.In) (hI : InsAt w sa L) (hF : Fine L) (hpos : 0 < L.length) :
    Calls Tryz.prog 73 #[.slice sa L.length sc, .int .u8 100] w (DoneEnd 100 L w) := by
  have hle := hF.len
  have hWy := hid (rWays_any w sa sc L hI hF)
  have hRe := hid (fun (w : World) (wb : Nat) (wa : Option Addr) (wc : Nat) h => rReached_any w sa sc L hF hpos wb wa wc h)
  have hKn := hid (fun (w : World) (hI : InsAt w sa L) (wb : Nat) (wa : Option Addr) (wc : Nat) h1 (B : List Bool) hBl (bb bg bc : Nat) h2 => rKnown_any w sa sc L hI hF hpos wb wa wc h1 B hBl bb bg bc h2 false)
  have HI0 := hid hI
  clear hI hF
  go_enter Tryz.func73, Tryz.ntmps73
  go_wp2_with fail
  refine hWy.out.mono ?_
  rintro e w1 ⟨v, rfl, hg1, ho1⟩
  obtain ⟨wa, wc, rfl⟩ := owns_slice ho1
  have HG1 := hid hg1
  have HO1 := hid ho1
  clear hg1 ho1 hWy
  go_wp2_with fail
  refine (hRe.out w1 _ _ _ HO1.out).mono ?_
  rintro e w2 ⟨B, rfl, hg2, hRB, hoB⟩
  have HG2 := hid (gb_trans HG1.out hg2)
  have HO2 := hid (kept_none HO1.out hg2)
  have HB2 := hid hoB
  have HRB := hid hRB
  have hBl := hRB.1
  clear hg2 hoB HO1 HG1 hRe hRB
  go_wp2_with fail
  refine (hKn.out w2 (HI0.out.keep HG2.out) _ _ _ HO2.out B hBl _ _ _ HB2.out).mono ?_
  rintro e w3 ⟨O, rfl, hg3, hKB, hoO⟩
  have HG3 := hid (gb_trans HG2.out hg3)
  have HB3 := hid (kept_none HB2.out hg3)
  have HO3 := hid hoO
  have HKB := hid hKB
  have hOl := hKB.len
  have HI3 := hid (HI0.out.keep HG3.out)
  clear hg3 hKB hoO HB2 HG2 HO2 hKn HI0
  go_wp2_with fail
  go_loopw [8] (fun a wr => ∃ n : Nat, n ≤ L.length ∧ a = .int .i64 n ∧ w3.grownBy wr none ∧ Hid (∀ m, m < n → Sc.okAt 100 B O m (Sc.lAt L m) = true)) (fun a _ => L.length - (intOf a).toNat)
  case atStart => exact ⟨0, Nat.zero_le _, rfl, gb_refl _ _, fun m h => by omega⟩
  case round =>
    obtain ⟨n, hn, rfl, hg, hok⟩ := hrel
    have HG := hid hg
    by_cases hlt : n < L.length
    · obtain ⟨b, off, rfl, hb, hcell⟩ := (HI3.out.keep hg) n hlt
      have t0 := hcell 0 (by omega)
      have t1 := hcell 1 (by omega)
      have t2 := hcell 2 (by omega)
      have t3 := hcell 3 (by omega)
      have hob := kept_none HB3.out hg
      have hoo := kept_none HO3.out hg
      have cB := owns_bool hBl.symm hob n (by omega)
      have cO := owns_it hOl.symm hoo n (by omega)
      have hbg := (hob.lt _ rfl).2
      have hog := (hoo.lt _ rfl).2
      have eR := rAt_in B n (by omega)
      rw [← eR] at cB
      have hL := lAt_in L n hlt
      have hnx : Hid (Sc.okAt 100 B O n L[n] = true → ∀ m, m < n + 1 → Sc.okAt 100 B O m (Sc.lAt L m) = true) := by
        intro h m hm
        by_cases q : m = n
        · subst q; rw [hL]; exact h
        · exact hok.out m (by omega)
      have hno : Hid (Sc.okAt 100 B O n L[n] = false → ¬ Sc.doneBy 100 L B O) := by
        intro h hd
        have := hd n hlt
        rw [hL, h] at this
        cases this
      have hcB : Hid (∀ W : World, W.ownsRow w1.heap.size 4 1 (.slice (some ⟨w1.heap.size, 0, none⟩) L.length L.length) L.length (B.map Value.bool) → W.cell? ⟨w1.heap.size, n, none⟩ = some (.bool (Sc.rAt B n))) := fun W h => by rw [rAt_in B n (by omega)]; exact owns_bool hBl.symm h n (by omega)
      have hcO : Hid (∀ W : World, W.ownsRow w2.heap.size 3 1 (.slice (some ⟨w2.heap.size, 0, none⟩) L.length L.length) L.length (O.map (Value.int .i64)) → W.cell? ⟨w2.heap.size, n, none⟩ = some (.int .i64 (Sc.oAt O n))) := fun W h => owns_it hOl.symm h n (by omega)
      clear eR hL
      have hdf : Hid (∀ x, Sc.okAt 100 B O n x = (Sc.rAt B n)) := by
        intro x; unfold Sc.okAt; simp
      generalize L[n] = X at *
      obtain ⟨op, t, f, k⟩ := X
      simp [inCells] at t0 t1 t2 t3
      rw [hdf.out] at hnx hno
      try simp only at hnx hno
      generalize Sc.rAt B n = bB at *
      generalize Sc.oAt O n = vO at *
      have hT := hid (fun w => rTest_any w op)
      generalize Sc.isTest op = tt at *
      have XB := hid (Blk.new wr 35 #[.int .i64 op, .int .i64 t, .int .i64 f, .int .i64 k])
      have Hg0 := hid (gb_alloc HG.out (.cells #[.int .i64 op, .int .i64 t, .int .i64 f, .int .i64 k] 35))
      have HBd := HB3
      have HOd := HO3
      clear hcell hg hob hoo hdf hok HI3 HB3 HO3
      cases bB
      · clear hnx
        go_wp2_with fail
        refine (hT.out _).mono ?_
        rintro e w9 ⟨rfl, rfl⟩
        clear hT
        go_wp2_with fail
        go_ret
        exact ⟨false, B, O, rfl, gb_trans HG3.out Hg0.out, HRB.out, HKB.out, by simp; exact hno.out (by simp)⟩
      · clear hno
        go_wp2_with fail
        refine (hT.out _).mono ?_
        rintro e w9 ⟨rfl, rfl⟩
        clear hT
        go_wp2_with fail
        have Hgd := hid (gb_drew Hg0.out)
        go_region
        go_wp2_with fail
        go_roundw
        case rel => exact ⟨n + 1, by omega, by go_num, Hgd.out, hnx.out (by simp)⟩
        case measure => simp [intOf]; omega

    · have hkn : n = L.length := by omega
      subst hkn
      clear hg
      go_wp2_with fail
      go_ret
      exact ⟨true, B, O, rfl, gb_trans HG3.out HG.out, HRB.out, HKB.out, by simp; exact fun i hi => hok.out i hi⟩

set_option maxRecDepth 100000 in
set_option maxHeartbeats 16000000 in
theorem rDone_107 (w : World) (sa : Option Addr) (sc : Nat) (L : List Sc.In) (hI : InsAt w sa L) (hF : Fine L) (hpos : 0 < L.length) :
    Calls Tryz.prog 73 #[.slice sa L.length sc, .int .u8 107] w (DoneEnd 107 L w) := by
  have hle := hF.len
  have hWy := hid (rWays_any w sa sc L hI hF)
  have hRe := hid (fun (w : World) (wb : Nat) (wa : Option Addr) (wc : Nat) h => rReached_any w sa sc L hF hpos wb wa wc h)
  have hKn := hid (fun (w : World) (hI : InsAt w sa L) (wb : Nat) (wa : Option Addr) (wc : Nat) h1 (B : List Bool) hBl (bb bg bc : Nat) h2 => rKnown_any w sa sc L hI hF hpos wb wa wc h1 B hBl bb bg bc h2 true)
  have HI0 := hid hI
  clear hI hF
  go_enter Tryz.func73, Tryz.ntmps73
  go_wp2_with fail
  refine hWy.out.mono ?_
  rintro e w1 ⟨v, rfl, hg1, ho1⟩
  obtain ⟨wa, wc, rfl⟩ := owns_slice ho1
  have HG1 := hid hg1
  have HO1 := hid ho1
  clear hg1 ho1 hWy
  go_wp2_with fail
  refine (hRe.out w1 _ _ _ HO1.out).mono ?_
  rintro e w2 ⟨B, rfl, hg2, hRB, hoB⟩
  have HG2 := hid (gb_trans HG1.out hg2)
  have HO2 := hid (kept_none HO1.out hg2)
  have HB2 := hid hoB
  have HRB := hid hRB
  have hBl := hRB.1
  clear hg2 hoB HO1 HG1 hRe hRB
  go_wp2_with fail
  refine (hKn.out w2 (HI0.out.keep HG2.out) _ _ _ HO2.out B hBl _ _ _ HB2.out).mono ?_
  rintro e w3 ⟨O, rfl, hg3, hKB, hoO⟩
  have HG3 := hid (gb_trans HG2.out hg3)
  have HB3 := hid (kept_none HB2.out hg3)
  have HO3 := hid hoO
  have HKB := hid hKB
  have hOl := hKB.len
  have HI3 := hid (HI0.out.keep HG3.out)
  clear hg3 hKB hoO HB2 HG2 HO2 hKn HI0
  go_wp2_with fail
  go_loopw [8] (fun a wr => ∃ n : Nat, n ≤ L.length ∧ a = .int .i64 n ∧ w3.grownBy wr none ∧ Hid (∀ m, m < n → Sc.okAt 107 B O m (Sc.lAt L m) = true)) (fun a _ => L.length - (intOf a).toNat)
  case atStart => exact ⟨0, Nat.zero_le _, rfl, gb_refl _ _, fun m h => by omega⟩
  case round =>
    obtain ⟨n, hn, rfl, hg, hok⟩ := hrel
    have HG := hid hg
    by_cases hlt : n < L.length
    · obtain ⟨b, off, rfl, hb, hcell⟩ := (HI3.out.keep hg) n hlt
      have t0 := hcell 0 (by omega)
      have t1 := hcell 1 (by omega)
      have t2 := hcell 2 (by omega)
      have t3 := hcell 3 (by omega)
      have hob := kept_none HB3.out hg
      have hoo := kept_none HO3.out hg
      have cB := owns_bool hBl.symm hob n (by omega)
      have cO := owns_it hOl.symm hoo n (by omega)
      have hbg := (hob.lt _ rfl).2
      have hog := (hoo.lt _ rfl).2
      have eR := rAt_in B n (by omega)
      rw [← eR] at cB
      have hL := lAt_in L n hlt
      have hnx : Hid (Sc.okAt 107 B O n L[n] = true → ∀ m, m < n + 1 → Sc.okAt 107 B O m (Sc.lAt L m) = true) := by
        intro h m hm
        by_cases q : m = n
        · subst q; rw [hL]; exact h
        · exact hok.out m (by omega)
      have hno : Hid (Sc.okAt 107 B O n L[n] = false → ¬ Sc.doneBy 107 L B O) := by
        intro h hd
        have := hd n hlt
        rw [hL, h] at this
        cases this
      have hcB : Hid (∀ W : World, W.ownsRow w1.heap.size 4 1 (.slice (some ⟨w1.heap.size, 0, none⟩) L.length L.length) L.length (B.map Value.bool) → W.cell? ⟨w1.heap.size, n, none⟩ = some (.bool (Sc.rAt B n))) := fun W h => by rw [rAt_in B n (by omega)]; exact owns_bool hBl.symm h n (by omega)
      have hcO : Hid (∀ W : World, W.ownsRow w2.heap.size 3 1 (.slice (some ⟨w2.heap.size, 0, none⟩) L.length L.length) L.length (O.map (Value.int .i64)) → W.cell? ⟨w2.heap.size, n, none⟩ = some (.int .i64 (Sc.oAt O n))) := fun W h => owns_it hOl.symm h n (by omega)
      clear eR hL
      have hdf : Hid (∀ x, Sc.okAt 107 B O n x = (!(Sc.rAt B n && (Sc.isTest x.op || x.op == 16) && decide (0 ≤ Sc.oAt O n)))) := by
        intro x; unfold Sc.okAt; simp
      generalize L[n] = X at *
      obtain ⟨op, t, f, k⟩ := X
      simp [inCells] at t0 t1 t2 t3
      rw [hdf.out] at hnx hno
      try simp only at hnx hno
      generalize Sc.rAt B n = bB at *
      generalize Sc.oAt O n = vO at *
      have hT := hid (fun w => rTest_any w op)
      generalize Sc.isTest op = tt at *
      have XB := hid (Blk.new wr 35 #[.int .i64 op, .int .i64 t, .int .i64 f, .int .i64 k])
      have Hg0 := hid (gb_alloc HG.out (.cells #[.int .i64 op, .int .i64 t, .int .i64 f, .int .i64 k] 35))
      have HBd := HB3
      have HOd := HO3
      clear hcell hg hob hoo hdf hok HI3 HB3 HO3
      go_wp2_with fail
      refine (hT.out _).mono ?_
      rintro e w9 ⟨rfl, rfl⟩
      clear hT
      go_wp2_with fail
      have Hgd := hid (gb_drew Hg0.out)
      go_region
      cases bB
      · have hy2 := hid (hnx.out (by simp))
        clear hno hnx
        go_wp2_with fail
        go_roundw
        case rel => exact ⟨n + 1, by omega, by go_num, Hgd.out, hy2.out⟩
        case measure => simp [intOf]; omega
      · cases tt
        · by_cases q16 : op = 16
          · subst q16
            by_cases qv : 0 ≤ vO
            · have hn2 := hid (hno.out (by simp [qv]))
              clear hnx hno
              go_wp2_with fail
              go_ret
              exact ⟨false, B, O, rfl, gb_trans HG3.out Hgd.out, HRB.out, HKB.out, by simp; exact hn2.out⟩
            · have hy2 := hid (hnx.out (by simp [qv]))
              have ev : decide (0 ≤ vO) = false := by simp [qv]
              clear hnx hno
              go_wp2_with fail
              go_roundw
              case rel => exact ⟨n + 1, by omega, by go_num, Hgd.out, hy2.out⟩
              case measure => simp [intOf]; omega
          · have hy2 := hid (hnx.out (by simp [q16]))
            have e16 : (op == 16) = false := by simp [q16]
            clear hnx hno q16
            go_wp2_with fail
            go_roundw
            case rel => exact ⟨n + 1, by omega, by go_num, Hgd.out, hy2.out⟩
            case measure => simp [intOf]; omega
        · by_cases qv : 0 ≤ vO
          · have hn2 := hid (hno.out (by simp [qv]))
            clear hnx hno
            go_wp2_with fail
            go_ret
            exact ⟨false, B, O, rfl, gb_trans HG3.out Hgd.out, HRB.out, HKB.out, by simp; exact hn2.out⟩
          · have hy2 := hid (hnx.out (by simp [qv]))
            have ev : decide (0 ≤ vO) = false := by simp [qv]
            clear hnx hno
            go_wp2_with fail
            go_roundw
            case rel => exact ⟨n + 1, by omega, by go_num, Hgd.out, hy2.out⟩
            case measure => simp [intOf]; omega

    · have hkn : n = L.length := by omega
      subst hkn
      clear hg
      go_wp2_with fail
      go_ret
      exact ⟨true, B, O, rfl, gb_trans HG3.out HG.out, HRB.out, HKB.out, by simp; exact fun i hi => hok.out i hi⟩
end Go.Proofs.YtpamlgdopmjooaaGreat
/- Done by l: the document's walk. -/
namespace Go.Proofs.YtpamlgdopmjooaaGreat
open Go.RowKit
set_option linter.unusedVariables false
set_option linter.unusedSimpArgs false

set_option maxRecDepth 100000 in
set_option maxHeartbeats 16000000 in
theorem rDone_108 (w : World) (sa : Option Addr) (sc : Nat) (L : List Sc.In) (hI : InsAt w sa L) (hF : Fine L) (hpos : 0 < L.length) :
    Calls Tryz.prog 73 #[.slice sa L.length sc, .int .u8 108] w (DoneEnd 108 L w) := by
  have hle := hF.len
  have hWy := hid (rWays_any w sa sc L hI hF)
  have hRe := hid (fun (w : World) (wb : Nat) (wa : Option Addr) (wc : Nat) h => rReached_any w sa sc L hF hpos wb wa wc h)
  have hKn := hid (fun (w : World) (hI : InsAt w sa L) (wb : Nat) (wa : Option Addr) (wc : Nat) h1 (B : List Bool) hBl (bb bg bc : Nat) h2 => rKnown_any w sa sc L hI hF hpos wb wa wc h1 B hBl bb bg bc h2 false)
  have HI0 := hid hI
  clear hI hF
  go_enter Tryz.func73, Tryz.ntmps73
  go_wp2_with fail
  refine hWy.out.mono ?_
  rintro e w1 ⟨v, rfl, hg1, ho1⟩
  obtain ⟨wa, wc, rfl⟩ := owns_slice ho1
  have HG1 := hid hg1
  have HO1 := hid ho1
  clear hg1 ho1 hWy
  go_wp2_with fail
  refine (hRe.out w1 _ _ _ HO1.out).mono ?_
  rintro e w2 ⟨B, rfl, hg2, hRB, hoB⟩
  have HG2 := hid (gb_trans HG1.out hg2)
  have HO2 := hid (kept_none HO1.out hg2)
  have HB2 := hid hoB
  have HRB := hid hRB
  have hBl := hRB.1
  clear hg2 hoB HO1 HG1 hRe hRB
  go_wp2_with fail
  refine (hKn.out w2 (HI0.out.keep HG2.out) _ _ _ HO2.out B hBl _ _ _ HB2.out).mono ?_
  rintro e w3 ⟨O, rfl, hg3, hKB, hoO⟩
  have HG3 := hid (gb_trans HG2.out hg3)
  have HB3 := hid (kept_none HB2.out hg3)
  have HO3 := hid hoO
  have HKB := hid hKB
  have hOl := hKB.len
  have HI3 := hid (HI0.out.keep HG3.out)
  clear hg3 hKB hoO HB2 HG2 HO2 hKn HI0
  go_wp2_with fail
  go_loopw [8] (fun a wr => ∃ n : Nat, n ≤ L.length ∧ a = .int .i64 n ∧ w3.grownBy wr none ∧ Hid (∀ m, m < n → Sc.okAt 108 B O m (Sc.lAt L m) = true)) (fun a _ => L.length - (intOf a).toNat)
  case atStart => exact ⟨0, Nat.zero_le _, rfl, gb_refl _ _, fun m h => by omega⟩
  case round =>
    obtain ⟨n, hn, rfl, hg, hok⟩ := hrel
    have HG := hid hg
    by_cases hlt : n < L.length
    · obtain ⟨b, off, rfl, hb, hcell⟩ := (HI3.out.keep hg) n hlt
      have t0 := hcell 0 (by omega)
      have t1 := hcell 1 (by omega)
      have t2 := hcell 2 (by omega)
      have t3 := hcell 3 (by omega)
      have hob := kept_none HB3.out hg
      have hoo := kept_none HO3.out hg
      have cB := owns_bool hBl.symm hob n (by omega)
      have cO := owns_it hOl.symm hoo n (by omega)
      have hbg := (hob.lt _ rfl).2
      have hog := (hoo.lt _ rfl).2
      have eR := rAt_in B n (by omega)
      rw [← eR] at cB
      have hL := lAt_in L n hlt
      have hnx : Hid (Sc.okAt 108 B O n L[n] = true → ∀ m, m < n + 1 → Sc.okAt 108 B O m (Sc.lAt L m) = true) := by
        intro h m hm
        by_cases q : m = n
        · subst q; rw [hL]; exact h
        · exact hok.out m (by omega)
      have hno : Hid (Sc.okAt 108 B O n L[n] = false → ¬ Sc.doneBy 108 L B O) := by
        intro h hd
        have := hd n hlt
        rw [hL, h] at this
        cases this
      have hcB : Hid (∀ W : World, W.ownsRow w1.heap.size 4 1 (.slice (some ⟨w1.heap.size, 0, none⟩) L.length L.length) L.length (B.map Value.bool) → W.cell? ⟨w1.heap.size, n, none⟩ = some (.bool (Sc.rAt B n))) := fun W h => by rw [rAt_in B n (by omega)]; exact owns_bool hBl.symm h n (by omega)
      have hcO : Hid (∀ W : World, W.ownsRow w2.heap.size 3 1 (.slice (some ⟨w2.heap.size, 0, none⟩) L.length L.length) L.length (O.map (Value.int .i64)) → W.cell? ⟨w2.heap.size, n, none⟩ = some (.int .i64 (Sc.oAt O n))) := fun W h => owns_it hOl.symm h n (by omega)
      clear eR hL
      have hdf : Hid (∀ x, Sc.okAt 108 B O n x = (!(Sc.rAt B n && x.op == 1 && Sc.oAt O n == x.k))) := by
        intro x; unfold Sc.okAt; simp
      generalize L[n] = X at *
      obtain ⟨op, t, f, k⟩ := X
      simp [inCells] at t0 t1 t2 t3
      rw [hdf.out] at hnx hno
      try simp only at hnx hno
      generalize Sc.rAt B n = bB at *
      generalize Sc.oAt O n = vO at *
      have hT := hid (fun w => rTest_any w op)
      generalize Sc.isTest op = tt at *
      have XB := hid (Blk.new wr 35 #[.int .i64 op, .int .i64 t, .int .i64 f, .int .i64 k])
      have Hg0 := hid (gb_alloc HG.out (.cells #[.int .i64 op, .int .i64 t, .int .i64 f, .int .i64 k] 35))
      have HBd := HB3
      have HOd := HO3
      clear hcell hg hob hoo hdf hok HI3 HB3 HO3
      cases bB
      · clear hno
        go_wp2_with fail
        refine (hT.out _).mono ?_
        rintro e w9 ⟨rfl, rfl⟩
        clear hT
        go_wp2_with fail
        have Hgd := hid (gb_drew Hg0.out)
        go_region
        go_wp2_with fail
        go_roundw
        case rel => exact ⟨n + 1, by omega, by go_num, Hgd.out, hnx.out (by simp)⟩
        case measure => simp [intOf]; omega
      · by_cases q1 : op = 1
        · subst q1
          by_cases qk : vO = k
          · have hn2 := hid (hno.out (by simp [qk]))
            have ek : (vO == k) = true := by simp [qk]
            clear hnx hno qk
            go_wp2_with fail
            refine (hT.out _).mono ?_
            rintro e w9 ⟨rfl, rfl⟩
            clear hT
            go_wp2_with fail
            have Hgd := hid (gb_drew Hg0.out)
            go_region
            go_wp2_with fail
            go_ret
            exact ⟨false, B, O, rfl, gb_trans HG3.out Hgd.out, HRB.out, HKB.out, by simp; exact hn2.out⟩
          · have hy2 := hid (hnx.out (by simp [qk]))
            have ek : (vO == k) = false := by simp [qk]
            clear hnx hno qk
            go_wp2_with fail
            refine (hT.out _).mono ?_
            rintro e w9 ⟨rfl, rfl⟩
            clear hT
            go_wp2_with fail
            have Hgd := hid (gb_drew Hg0.out)
            go_region
            go_wp2_with fail
            go_roundw
            case rel => exact ⟨n + 1, by omega, by go_num, Hgd.out, hy2.out⟩
            case measure => simp [intOf]; omega
        · have hy2 := hid (hnx.out (by simp [q1]))
          have e1 : (op == 1) = false := by simp [q1]
          clear hnx hno q1
          go_wp2_with fail
          refine (hT.out _).mono ?_
          rintro e w9 ⟨rfl, rfl⟩
          clear hT
          go_wp2_with fail
          have Hgd := hid (gb_drew Hg0.out)
          go_region
          go_wp2_with fail
          go_roundw
          case rel => exact ⟨n + 1, by omega, by go_num, Hgd.out, hy2.out⟩
          case measure => simp [intOf]; omega

    · have hkn : n = L.length := by omega
      subst hkn
      clear hg
      go_wp2_with fail
      go_ret
      exact ⟨true, B, O, rfl, gb_trans HG3.out HG.out, HRB.out, HKB.out, by simp; exact fun i hi => hok.out i hi⟩
end Go.Proofs.YtpamlgdopmjooaaGreat
