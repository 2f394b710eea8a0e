import Derived.Test.YtldongbimhngfaaPl1
/- Runs that end, step by step; what may stand in a list's place. -/
namespace Go.Proofs.Ytldongbimhngfaa
open Go.RowKit
set_option linter.unusedVariables false
set_option linter.unusedSimpArgs false

/-- the run of the instructions ends with v, in n steps -/
def EndsN (r : ByteArray) : Nat → List Sc.In → Sc.Mc → Int → Prop
  | 0, _, _, _ => False
  | _ + 1, [], _, _ => False
  | n + 1, x :: l, m, v => (x.op = 15 ∧ v = x.k ∧ n = 0) ∨ (x.op = 16 ∧ v = m.a ∧ n = 0) ∨ (x.op ≠ 15 ∧ x.op ≠ 16 ∧ EndsN r n (l.drop (Sc.hop x m.a).toNat) (Sc.stepM r x m) v)
def Ends (r : ByteArray) (l : List Sc.In) (m : Sc.Mc) (v : Int) (n : Nat) : Prop := EndsN r n l m v
theorem Ends.ret {r : ByteArray} (x : Sc.In) (l : List Sc.In) (m : Sc.Mc) (h : x.op = 15) : Ends r (x :: l) m x.k 1 := Or.inl ⟨h, rfl, rfl⟩
theorem Ends.ans {r : ByteArray} (x : Sc.In) (l : List Sc.In) (m : Sc.Mc) (h : x.op = 16) : Ends r (x :: l) m m.a 1 := Or.inr (Or.inl ⟨h, rfl, rfl⟩)
theorem Ends.step {r : ByteArray} (x : Sc.In) (l : List Sc.In) (m : Sc.Mc) (v : Int) (n : Nat) (h1 : x.op ≠ 15) (h2 : x.op ≠ 16) (h : Ends r (l.drop (Sc.hop x m.a).toNat) (Sc.stepM r x m) v n) : Ends r (x :: l) m v (n + 1) := Or.inr (Or.inr ⟨h1, h2, h⟩)
/-- how a run of x :: l ends -/
theorem ends_inv {r : ByteArray} {x : Sc.In} {l : List Sc.In} {m : Sc.Mc} {v : Int} {n : Nat} (h : Ends r (x :: l) m v n) :
    (x.op = 15 ∧ v = x.k ∧ n = 1) ∨ (x.op = 16 ∧ v = m.a ∧ n = 1) ∨ (x.op ≠ 15 ∧ x.op ≠ 16 ∧ ∃ n', n = n' + 1 ∧ Ends r (l.drop (Sc.hop x m.a).toNat) (Sc.stepM r x m) v n') := by
  cases n with
  | zero => exact absurd h (fun q => q)
  | succ n =>
    rcases h with ⟨h1, h2, h3⟩ | ⟨h1, h2, h3⟩ | ⟨h1, h2, h3⟩
    · exact Or.inl ⟨h1, h2, by omega⟩
    · exact Or.inr (Or.inl ⟨h1, h2, by omega⟩)
    · exact Or.inr (Or.inr ⟨h1, h2, n, rfl, h3⟩)
theorem ends_nil {r : ByteArray} {m : Sc.Mc} {v : Int} {n : Nat} (h : Ends r [] m v n) : False := by cases n <;> exact h
theorem ends_pos {r : ByteArray} {l : List Sc.In} {m : Sc.Mc} {v : Int} {n : Nat} (h : Ends r l m v n) : 0 < n := by
  cases n with
  | zero => exact absurd h (fun q => q)
  | succ n => omega
/-- the same by numbers -/
theorem ends_at {r : ByteArray} {L : List Sc.In} {i : Nat} {m : Sc.Mc} {v : Int} {n : Nat} (h : Ends r (L.drop i) m v n) : ∃ hi : i < L.length,
    (L[i].op = 15 ∧ v = L[i].k ∧ n = 1) ∨ (L[i].op = 16 ∧ v = m.a ∧ n = 1) ∨ (L[i].op ≠ 15 ∧ L[i].op ≠ 16 ∧ ∃ n', n = n' + 1 ∧ Ends r (L.drop (i + 1 + (Sc.hop L[i] m.a).toNat)) (Sc.stepM r L[i] m) v n') := by
  by_cases hi : i < L.length
  · refine ⟨hi, ?_⟩
    rw [List.drop_eq_getElem_cons hi] at h
    have := ends_inv h
    rw [List.drop_drop] at this
    exact this
  · rw [List.drop_eq_nil_of_le (by omega)] at h
    exact absurd h ends_nil
theorem ends_ret {r : ByteArray} {L : List Sc.In} {i : Nat} {m : Sc.Mc} (hi : i < L.length) (h : L[i].op = 15) : Ends r (L.drop i) m L[i].k 1 := by
  rw [List.drop_eq_getElem_cons hi]; exact Ends.ret _ _ _ h
theorem ends_ans {r : ByteArray} {L : List Sc.In} {i : Nat} {m : Sc.Mc} (hi : i < L.length) (h : L[i].op = 16) : Ends r (L.drop i) m m.a 1 := by
  rw [List.drop_eq_getElem_cons hi]; exact Ends.ans _ _ _ h
theorem ends_step {r : ByteArray} {L : List Sc.In} {i : Nat} {m : Sc.Mc} {v : Int} {n : Nat} (hi : i < L.length) (h15 : L[i].op ≠ 15) (h16 : L[i].op ≠ 16)
    (h : Ends r (L.drop (i + 1 + (Sc.hop L[i] m.a).toNat)) (Sc.stepM r L[i] m) v n) : Ends r (L.drop i) m v (n + 1) := by
  rw [List.drop_eq_getElem_cons hi]
  refine Ends.step _ _ _ _ _ h15 h16 ?_
  rw [List.drop_drop]
  exact h
theorem ends_run {r : ByteArray} : ∀ (n : Nat) (l : List Sc.In) (m : Sc.Mc) (v : Int) (g : Nat) (s : Int), Ends r l m v n → l.length < g → Sc.runN r g l m s = (v, s + n) := by
  intro n
  induction n with
  | zero => intro l m v g s h; exact absurd (ends_pos h) (by omega)
  | succ n ih =>
    intro l m v g s h hg
    cases l with
    | nil => exact absurd h ends_nil
    | cons x l =>
      cases g with
      | zero => omega
      | succ g =>
        simp only [Sc.runN]
        rcases ends_inv h with ⟨h1, h2, h3⟩ | ⟨h1, h2, h3⟩ | ⟨h1, h2, n', h3, h4⟩
        · rw [if_pos h1, h2, h3]; rfl
        · rw [if_neg (by omega), if_pos h1, h2, h3]; rfl
        · rw [if_neg h1, if_neg h2]
          have : n' = n := by omega
          subst this
          rw [ih _ _ _ g (s + 1) h4 (by rw [List.length_drop]; simp only [List.length_cons] at hg; omega)]
          congr 1
          omega
theorem ends_ex (r : ByteArray) (L : List Sc.In) (hs : SoundList L) : ∀ (d i : Nat) (m : Sc.Mc), i < L.length → L.length - i ≤ d → ∃ v n, Ends r (L.drop i) m v n := by
  intro d
  induction d with
  | zero => intro i m h1 h2; omega
  | succ d ih =>
    intro i m hi hd
    by_cases h15 : L[i].op = 15
    · exact ⟨_, _, ends_ret hi h15⟩
    by_cases h16 : L[i].op = 16
    · exact ⟨_, _, ends_ans hi h16⟩
    obtain ⟨v, n, h⟩ := ih (i + 1 + (Sc.hop L[i] m.a).toNat) (Sc.stepM r L[i] m) (hs.leads i hi m.a h15 h16) (by omega)
    exact ⟨v, n + 1, ends_step hi h15 h16 h⟩
/-- may M stand in L's place? -/
structure Better1 (L M : List Sc.In) : Prop where
  sound : SoundList M
  len : M.length ≤ L.length
  run : ∀ r v n, Ends r L ⟨0, 0, 0, 0, 0⟩ v n → ∃ n', n' ≤ n ∧ Ends r M ⟨0, 0, 0, 0, 0⟩ v n'
theorem Better1.refl {L : List Sc.In} (h : SoundList L) : Better1 L L := ⟨h, Nat.le_refl _, fun r v n e => ⟨n, Nat.le_refl _, e⟩⟩
theorem Better1.trans {L M N : List Sc.In} (h : Better1 L M) (k : Better1 M N) : Better1 L N := by
  refine ⟨k.sound, Nat.le_trans k.len h.len, fun r v n e => ?_⟩
  obtain ⟨n1, h1, e1⟩ := h.run r v n e
  obtain ⟨n2, h2, e2⟩ := k.run r v n1 e1
  exact ⟨n2, by omega, e2⟩
theorem Better1.runL {L M : List Sc.In} (hL : SoundList L) (h : Better1 L M) (r : ByteArray) : (Sc.runL r M).1 = (Sc.runL r L).1 ∧ (Sc.runL r M).2 ≤ (Sc.runL r L).2 := by
  obtain ⟨v, n, e⟩ := ends_ex r L hL L.length 0 ⟨0, 0, 0, 0, 0⟩ hL.2.1 (by omega)
  rw [List.drop_zero] at e
  obtain ⟨n', hn, e'⟩ := h.run r v n e
  unfold Sc.runL
  rw [ends_run n L _ v (L.length + 1) 0 e (by omega), ends_run n' M _ v (M.length + 1) 0 e' (by omega)]
  refine ⟨rfl, ?_⟩
  show (0 : Int) + n' ≤ 0 + n
  omega
end Go.Proofs.Ytldongbimhngfaa
/- What is told along ways: the facts, as plain functions. -/
namespace Go.Proofs.Ytldongbimhngfaa.Sc
/-- what is told of an instruction -/
def fAt (A : List Int) (j : Nat) : Int := (A[j]?).getD (-2)
/-- a way leads to an instruction, v is known along it -/
def lead (A : List Int) (to : Nat) (v : Int) : List Int := if fAt A to = -2 then A.set to v else if fAt A to = v then A else A.set to (-1)
/-- the ways from the instruction i, the last first -/
def edges (i : Nat) (x : In) (bt ot : Int) : List (Nat × Int) :=
  if isTest x.op = true then [(i + 1 + x.f.toNat, ot), (i + 1 + x.t.toNat, bt)]
  else if x.op = 10 then [(i + 1 + x.k.toNat, ot)]
  else if x.op = 15 ∨ x.op = 16 then []
  else [(i + 1, ot)]
def leads (A : List Int) : List (Nat × Int) → List Int
  | [] => A
  | e :: E => lead (leads A E) e.1 e.2
/-- a pass: what is put for an instruction, what is known along the ways from it, and ahead of the first -/
structure Ps where
  re : In → Int → In
  bt : In → Int → Int
  ot : In → Int → Int
  first : Int
def facE (p : Ps) (i : Nat) (x : In) (a : Int) : List (Nat × Int) := if a = -2 then [] else edges i (p.re x a) (p.bt (p.re x a) a) (p.ot (p.re x a) a)
def fac0 (p : Ps) (n : Nat) : List Int := (List.replicate n (-2)).set 0 p.first
/-- when the first n instructions have told -/
def facN (p : Ps) (L : List In) : Nat → List Int
  | 0 => fac0 p L.length
  | i + 1 => leads (facN p L i) (match L[i]? with | some x => facE p i x (fAt (facN p L i) i) | none => [])
def allE (p : Ps) (L : List In) : Nat → List (Nat × Int)
  | 0 => []
  | i + 1 => (match L[i]? with | some x => facE p i x (fAt (facN p L i) i) | none => []) ++ allE p L i
/-- what is known ahead of each -/
def fact (p : Ps) (L : List In) (j : Nat) : Int := fAt (facN p L L.length) j
end Go.Proofs.Ytldongbimhngfaa.Sc
namespace Go.Proofs.Ytldongbimhngfaa
open Go.RowKit Sc
set_option linter.unusedVariables false
set_option linter.unusedSimpArgs false

theorem lead_len (A : List Int) (to : Nat) (v : Int) : (lead A to v).length = A.length := by
  unfold lead; split
  · simp
  · split <;> simp
theorem leads_len (A : List Int) (E : List (Nat × Int)) : (leads A E).length = A.length := by
  induction E with
  | nil => rfl
  | cons e E ih => simp only [leads]; rw [lead_len, ih]
theorem leads_app (A : List Int) (E F : List (Nat × Int)) : leads A (E ++ F) = leads (leads A F) E := by
  induction E with
  | nil => rfl
  | cons e E ih => simp only [leads, List.cons_append]; rw [ih]
theorem fAt_set (A : List Int) (to j : Nat) (v : Int) : fAt (A.set to v) j = if to = j ∧ to < A.length then v else fAt A j := by
  unfold fAt
  rw [List.getElem?_set]
  by_cases h : to = j
  · subst h
    by_cases h2 : to < A.length
    · simp [h2]
    · simp [h2]
  · simp [h]
theorem lead_other (A : List Int) (to j : Nat) (v : Int) (h : to ≠ j) : fAt (lead A to v) j = fAt A j := by
  unfold lead; split
  · rw [fAt_set]; simp [h]
  · split
    · rfl
    · rw [fAt_set]; simp [h]
theorem lead_at (A : List Int) (to : Nat) (v : Int) (h : to < A.length) : fAt (lead A to v) to = if fAt A to = -2 then v else if fAt A to = v then v else -1 := by
  unfold lead; split
  · rw [fAt_set]; simp [h]
  · split
    · assumption
    · rw [fAt_set]; simp [h]
theorem edges_on (i : Nat) (x : In) (bt ot : Int) : ∀ e ∈ edges i x bt ot, i < e.1 := by
  intro e he
  unfold edges at he
  split at he
  · simp at he; rcases he with rfl | rfl <;> simp only <;> omega
  · split at he
    · simp at he; subst he; simp only; omega
    · split at he
      · simp at he
      · simp at he; subst he; simp only; omega
theorem leads_other (A : List Int) (E : List (Nat × Int)) (j : Nat) (h : ∀ e ∈ E, e.1 ≠ j) : fAt (leads A E) j = fAt A j := by
  induction E with
  | nil => rfl
  | cons e E ih =>
    simp only [leads]
    rw [lead_other _ _ _ _ (h e (by simp)), ih fun e' he' => h e' (by simp [he'])]
theorem facE_on (p : Ps) (i : Nat) (x : In) (a : Int) : ∀ e ∈ facE p i x a, i < e.1 := by
  unfold facE; split
  · intro e he; simp at he
  · exact edges_on _ _ _ _
theorem fac0_len (p : Ps) (n : Nat) : (fac0 p n).length = n := by simp [fac0]
theorem facN_len (p : Ps) (L : List In) (n : Nat) : (facN p L n).length = L.length := by
  induction n with
  | zero => exact fac0_len _ _
  | succ n ih => simp only [facN]; rw [leads_len, ih]
theorem facN_all (p : Ps) (L : List In) (n : Nat) : facN p L n = leads (fac0 p L.length) (allE p L n) := by
  induction n with
  | zero => rfl
  | succ n ih => simp only [facN, allE]; rw [leads_app, ← ih]
theorem facN_still (p : Ps) (L : List In) (i : Nat) : ∀ n, i ≤ n → fAt (facN p L n) i = fAt (facN p L i) i := by
  intro n
  induction n with
  | zero => intro h; have : i = 0 := by omega
            subst this; rfl
  | succ n ih =>
    intro h
    by_cases q : i = n + 1
    · subst q; rfl
    · rw [← ih (by omega)]
      simp only [facN]
      refine leads_other _ _ _ ?_
      split
      · intro e he; have := facE_on p n _ _ e he; omega
      · intro e he; simp at he
theorem fact_now (p : Ps) (L : List In) (i : Nat) (h : i ≤ L.length) : fAt (facN p L i) i = fact p L i := (facN_still p L i L.length h).symm
theorem mem_allE (p : Ps) (L : List In) (e : Nat × Int) : ∀ n, n ≤ L.length → (e ∈ allE p L n ↔ ∃ i, ∃ h : i < L.length, i < n ∧ e ∈ facE p i L[i] (fact p L i)) := by
  intro n
  induction n with
  | zero => intro _; simp [allE]
  | succ n ih =>
    intro hn
    have hlt : n < L.length := by omega
    simp only [allE]
    rw [List.mem_append, ih (by omega), List.getElem?_eq_getElem hlt, fact_now p L n (by omega)]
    constructor
    · rintro (h | ⟨i, h1, h2, h3⟩)
      · exact ⟨n, hlt, by omega, h⟩
      · exact ⟨i, h1, by omega, h3⟩
    · rintro ⟨i, h1, h2, h3⟩
      by_cases q : i = n
      · subst q; exact Or.inl h3
      · exact Or.inr ⟨i, h1, by omega, h3⟩
theorem fac0_at (p : Ps) (n j : Nat) (hn : 0 < n) : fAt (fac0 p n) j = if j = 0 then p.first else -2 := by
  unfold fac0
  rw [fAt_set]
  by_cases h : j = 0
  · subst h; simp [hn]
  · rw [if_neg (by omega), if_neg h]
    unfold fAt
    by_cases h2 : j < n
    · simp [h2]
    · simp [h2]
/-- what all that was told comes to -/
theorem leads_props (p : Ps) (n : Nat) (hn : 0 < n) (E : List (Nat × Int)) (hE : ∀ e ∈ E, 0 < e.1 ∧ e.1 < n ∧ e.2 ≠ -2) :
    fAt (leads (fac0 p n) E) 0 = p.first ∧
    (∀ j, 0 < j → (fAt (leads (fac0 p n) E) j = -2 ↔ ∀ e ∈ E, e.1 ≠ j)) ∧
    (∀ e ∈ E, fAt (leads (fac0 p n) E) e.1 = e.2 ∨ fAt (leads (fac0 p n) E) e.1 = -1) ∧
    (∀ j v, 0 < j → (∀ e ∈ E, e.1 = j → e.2 = v) → fAt (leads (fac0 p n) E) j = v ∨ fAt (leads (fac0 p n) E) j = -2) := by
  induction E with
  | nil =>
    refine ⟨?_, fun j hj => ?_, fun e he => by simp at he, fun j v hj _ => ?_⟩
    · simp only [leads]; rw [fac0_at _ _ _ hn, if_pos rfl]
    · simp only [leads]; rw [fac0_at _ _ _ hn, if_neg (by omega)]; simp
    · simp only [leads]; rw [fac0_at _ _ _ hn, if_neg (by omega)]; exact Or.inr rfl
  | cons e E ih =>
    obtain ⟨i0, i1, i2, i3⟩ := ih fun e' he' => hE e' (by simp [he'])
    obtain ⟨h1, h2, h3⟩ := hE e (by simp)
    have hlen : e.1 < (leads (fac0 p n) E).length := by rw [leads_len, fac0_len]; exact h2
    have hat := lead_at _ _ e.2 hlen
    have hot := fun j => lead_other (leads (fac0 p n) E) e.1 j e.2
    simp only [leads]
    refine ⟨by rw [hot 0 (by omega)]; exact i0, fun j hj => ?_, fun e' he' => ?_, fun j v hj hall => ?_⟩
    · by_cases q : e.1 = j
      · subst q
        rw [hat]
        constructor
        · intro h; exfalso; split at h
          · exact h3 h
          · split at h
            · exact h3 h
            · omega
        · intro h; exact absurd rfl (h e (by simp))
      · rw [hot j q, i1 j hj]
        constructor
        · intro h e' he'
          rcases List.mem_cons.1 he' with rfl | he'
          · exact q
          · exact h e' he'
        · intro h e' he'; exact h e' (by simp [he'])
    · rcases List.mem_cons.1 he' with rfl | he'
      · rw [hat]; split
        · exact Or.inl rfl
        · split
          · exact Or.inl rfl
          · exact Or.inr rfl
      · by_cases q : e.1 = e'.1
        · have h5 := i2 e' he'
          have h6 : fAt (leads (fac0 p n) E) e'.1 ≠ -2 := fun z => (i1 e'.1 (by omega)).1 z e' he' rfl
          rw [← q] at h5 h6 ⊢
          rw [hat, if_neg h6]
          split
          · next h7 => rw [h7] at h5; exact h5
          · exact Or.inr rfl
        · rw [hot _ q]; exact i2 e' he'
    · by_cases q : e.1 = j
      · subst q
        have hv := hall e (by simp) rfl
        rw [hat, hv]
        rcases i3 e.1 v hj (fun e' he' => hall e' (by simp [he'])) with h | h
        · left; split
          · rfl
          · first | rfl | rw [if_pos h]
        · rw [if_pos h]; exact Or.inl rfl
      · rw [hot _ q]; exact i3 j v hj (fun e' he' => hall e' (by simp [he']))
/-- what is known ahead of each instruction of a list that was put -/
structure Facts (L : List In) (bt ot : In → Int → Int) (first : Int) (a : Nat → Int) : Prop where
  zero : a 0 = first
  lead : ∀ i (h : i < L.length) e, a i ≠ -2 → e ∈ edges i L[i] (bt L[i] (a i)) (ot L[i] (a i)) → a e.1 ≠ -2 ∧ (a e.1 = e.2 ∨ a e.1 = -1)
  some : ∀ j, 0 < j → a j ≠ -2 → ∃ i, ∃ h : i < L.length, ∃ e, a i ≠ -2 ∧ e ∈ edges i L[i] (bt L[i] (a i)) (ot L[i] (a i)) ∧ e.1 = j
  all : ∀ j v, 0 < j → a j ≠ -2 → (∀ i (h : i < L.length) e, a i ≠ -2 → e ∈ edges i L[i] (bt L[i] (a i)) (ot L[i] (a i)) → e.1 = j → e.2 = v) → a j = v
/-- the list that a pass puts -/
def put (p : Ps) (L : List In) : List In := (List.range L.length).map fun i => p.re (L[i]?.getD ⟨0, 0, 0, 0⟩) (fact p L i)
theorem put_len (p : Ps) (L : List In) : (put p L).length = L.length := by simp [put]
theorem put_at (p : Ps) (L : List In) (i : Nat) (h : i < L.length) : (put p L)[i]'(by rw [put_len]; exact h) = p.re L[i] (fact p L i) := by
  simp [put, h]
theorem facts_of (p : Ps) (L : List In) (hpos : 0 < L.length)
    (hE : ∀ i (h : i < L.length), ∀ e ∈ facE p i L[i] (fact p L i), e.1 < L.length ∧ e.2 ≠ -2) : Facts (put p L) p.bt p.ot p.first (fact p L) := by
  have hm := fun e => mem_allE p L e L.length (Nat.le_refl _)
  obtain ⟨p0, p1, p2, p3⟩ := leads_props p L.length hpos (allE p L L.length) (by
    intro e he
    obtain ⟨i, h1, h2, h3⟩ := (hm e).1 he
    have := hE i h1 e h3
    have := facE_on p i _ _ e h3
    exact ⟨by omega, by omega, by omega⟩)
  rw [← facN_all] at p0 p1 p2 p3
  have hin : ∀ i (h : i < (put p L).length) e, fact p L i ≠ -2 → e ∈ edges i (put p L)[i] (p.bt (put p L)[i] (fact p L i)) (p.ot (put p L)[i] (fact p L i)) → e ∈ allE p L L.length := by
    intro i h e ha he
    have h' : i < L.length := by rw [put_len] at h; exact h
    rw [put_at p L i h'] at he
    refine (hm e).2 ⟨i, h', h', ?_⟩
    unfold facE
    rw [if_neg ha]
    exact he
  have hout : ∀ e ∈ allE p L L.length, ∃ i, ∃ h : i < (put p L).length, fact p L i ≠ -2 ∧ e ∈ edges i (put p L)[i] (p.bt (put p L)[i] (fact p L i)) (p.ot (put p L)[i] (fact p L i)) := by
    intro e he
    obtain ⟨i, h1, h2, h3⟩ := (hm e).1 he
    unfold facE at h3
    by_cases ha : fact p L i = -2
    · rw [if_pos ha] at h3; simp at h3
    · rw [if_neg ha] at h3
      refine ⟨i, by rw [put_len]; exact h1, ha, ?_⟩
      rw [put_at p L i h1]
      exact h3
  refine ⟨p0, fun i h e ha he => ?_, fun j hj ha => ?_, fun j v hj ha hall => ?_⟩
  · have h1 := hin i h e ha he
    have h2 := edges_on _ _ _ _ e he
    exact ⟨fun z => (p1 e.1 (by omega)).1 z e h1 rfl, p2 e h1⟩
  · have : ¬ ∀ e ∈ allE p L L.length, e.1 ≠ j := fun z => ha ((p1 j hj).2 z)
    have : ∃ e, e ∈ allE p L L.length ∧ e.1 = j := by
      by_cases q : ∃ e, e ∈ allE p L L.length ∧ e.1 = j
      · exact q
      · exact absurd (fun e he he1 => q ⟨e, he, he1⟩) this
    obtain ⟨e, he, he1⟩ := this
    obtain ⟨i, h, h1, h2⟩ := hout e he
    exact ⟨i, h, e, h1, h2, he1⟩
  · rcases p3 j v hj (fun e he he1 => by
      obtain ⟨i, h, h1, h2⟩ := hout e he
      exact hall i h e h1 h2 he1) with h | h
    · exact h
    · exact absurd h ha
end Go.Proofs.Ytldongbimhngfaa
/- A list of the instructions that are kept. -/
namespace Go.Proofs.Ytldongbimhngfaa.Sc
def kp (keep : List Bool) (i : Nat) : Bool := keep[i]?.getD false
/-- how many in front are kept -/
def pl (keep : List Bool) : Nat → Nat
  | 0 => 0
  | i + 1 => pl keep i + (if kp keep i = true then 1 else 0)
def btw (keep : List Bool) (i to : Nat) : Int := if i < to ∧ to < keep.length then (pl keep to : Int) - pl keep i - 1 else 0
def moved (keep : List Bool) (i : Nat) (x : In) : In :=
  if x.op = 10 then { x with k := btw keep i (i + 1 + x.k.toNat) }
  else if isTest x.op = true then { x with t := btw keep i (i + 1 + x.t.toNat), f := btw keep i (i + 1 + x.f.toNat) }
  else x
def onlyN (L : List In) (keep : List Bool) : Nat → List In
  | 0 => []
  | n + 1 => onlyN L keep n ++ (if kp keep n = true then [moved keep n (L[n]?.getD ⟨0, 0, 0, 0⟩)] else [])
def only (L : List In) (keep : List Bool) : List In := onlyN L keep L.length
/-- where a run may go on -/
def tos (i : Nat) (x : In) : List Nat :=
  if isTest x.op = true then [i + 1 + x.f.toNat, i + 1 + x.t.toNat]
  else if x.op = 10 then [i + 1 + x.k.toNat]
  else if x.op = 15 ∨ x.op = 16 then []
  else [i + 1]
/-- what is reached -/
def Rch (L : List In) (n : Nat) : Prop := ∀ P : Nat → Prop, P 0 → (∀ i to (h : i < L.length), P i → to ∈ tos i L[i] → P to) → P n
theorem Rch.zero {L : List In} : Rch L 0 := fun _ h _ => h
theorem Rch.step {L : List In} {i to : Nat} (h : i < L.length) (hr : Rch L i) (ht : to ∈ tos i L[i]) : Rch L to := fun P h0 hs => hs i to h (hr P h0 hs) ht
end Go.Proofs.Ytldongbimhngfaa.Sc
namespace Go.Proofs.Ytldongbimhngfaa
open Go.RowKit Sc
set_option linter.unusedVariables false
set_option linter.unusedSimpArgs false

theorem edges_tos (i : Nat) (x : In) (bt ot : Int) : ∀ e ∈ edges i x bt ot, e.1 ∈ tos i x := by
  intro e he
  unfold edges at he; unfold tos
  split at he
  · next h => rw [if_pos h]; simp at he ⊢; rcases he with rfl | rfl <;> simp
  · next h => rw [if_neg h]
              split at he
              · next h => rw [if_pos h]; simp at he ⊢; subst he; rfl
              · next h => rw [if_neg h]
                          split at he
                          · simp at he
                          · next h => rw [if_neg h]; simp at he ⊢; subst he; rfl
theorem tos_edges (i : Nat) (x : In) (bt ot : Int) : ∀ to ∈ tos i x, ∃ e ∈ edges i x bt ot, e.1 = to := by
  intro to he
  unfold edges; unfold tos at he
  split at he
  · next h => rw [if_pos h]; simp at he ⊢; rcases he with rfl | rfl <;> simp
  · next h => rw [if_neg h]
              split at he
              · next h => rw [if_pos h]; simp at he ⊢; subst he; rfl
              · next h => rw [if_neg h]
                          split at he
                          · simp at he
                          · next h => rw [if_neg h]; simp at he ⊢; subst he; rfl
theorem tos_on (i : Nat) (x : In) : ∀ to ∈ tos i x, i < to := by
  intro to h
  obtain ⟨e, he, rfl⟩ := tos_edges i x 0 0 to h
  exact edges_on _ _ _ _ e he
/-- all is well with an instruction -/
theorem wrong_iff (x : In) (left : Int) : wrongE x left = 0 ↔ (1 ≤ x.op ∧ x.op ≤ 16) ∧ (isTest x.op = false → x.t + x.f ≤ 0) ∧ (x.op = 16 → x.k ≤ 0) ∧ mayB x = true ∧ (x.op = 10 → x.k < left) ∧ (isTest x.op = true → x.t < left ∧ x.f < left) := by
  unfold wrongE
  split
  · constructor
    · intro h; cases h
    · intro h; omega
  · split
    · next h1 h2 =>
      constructor
      · intro h; cases h
      · intro h
        rcases h2 with ⟨q, q2⟩ | ⟨q, q2⟩
        · have := h.2.1 q; omega
        · have := h.2.2.1 q; omega
    · next h1 h2 =>
      split
      · next h3 =>
        constructor
        · intro h; cases h
        · intro h; rw [h.2.2.2.1] at h3; cases h3
      · next h3 =>
        split
        · next h4 =>
          constructor
          · intro h; cases h
          · intro h
            rcases h4 with ⟨q, q2⟩ | ⟨q, q2⟩
            · have := h.2.2.2.2.1 q; omega
            · have := h.2.2.2.2.2 q; omega
        · next h4 =>
          refine ⟨fun _ => ⟨by omega, fun q => ?_, fun q => ?_, by simpa using h3, fun q => ?_, fun q => ⟨?_, ?_⟩⟩, fun _ => rfl⟩
          · by_cases z : 0 < x.t + x.f
            · exact absurd (Or.inl ⟨q, z⟩) h2
            · omega
          · by_cases z : 0 < x.k
            · exact absurd (Or.inr ⟨q, z⟩) h2
            · omega
          · by_cases z : left ≤ x.k
            · exact absurd (Or.inl ⟨q, z⟩) h4
            · omega
          · by_cases z : left ≤ x.t
            · exact absurd (Or.inr ⟨q, Or.inl z⟩) h4
            · omega
          · by_cases z : left ≤ x.f
            · exact absurd (Or.inr ⟨q, Or.inr z⟩) h4
            · omega
theorem SoundList.next {l : List In} (h : SoundList l) (i : Nat) (hi : i < l.length) (h15 : l[i].op ≠ 15) (h16 : l[i].op ≠ 16) : i + 1 < l.length := by
  have := h.leads i hi 0 h15 h16
  omega
theorem SoundList.tos_in {l : List In} (h : SoundList l) (i : Nat) (hi : i < l.length) : ∀ to ∈ tos i l[i], to < l.length := by
  intro to ht
  have hw := (wrong_iff _ _).1 (h.2.2.1 i hi)
  have hr := h.1.2 i hi
  have hn := h.next i hi
  unfold InRng at hr
  unfold tos at ht
  split at ht
  · next q => have := hw.2.2.2.2.2 q; simp at ht; omega
  · split at ht
    · next q => have := hw.2.2.2.2.1 q; simp at ht; omega
    · split at ht
      · simp at ht
      · next q => have := hn (fun z => q (Or.inl z)) (fun z => q (Or.inr z)); simp at ht; omega

theorem pl_mono (keep : List Bool) (i : Nat) : ∀ j, i ≤ j → pl keep i ≤ pl keep j ∧ pl keep j ≤ pl keep i + (j - i) := by
  intro j
  induction j with
  | zero => intro h; have : i = 0 := by omega
            subst this; omega
  | succ j ih =>
    intro h
    by_cases q : i = j + 1
    · subst q; omega
    · have := ih (by omega)
      simp only [pl]
      split <;> omega
theorem pl_kept (keep : List Bool) (i : Nat) (h : kp keep i = true) : pl keep (i + 1) = pl keep i + 1 := by simp [pl, h]
theorem pl_drop (keep : List Bool) (i : Nat) (h : kp keep i = false) : pl keep (i + 1) = pl keep i := by simp [pl, h]
theorem pl_lt (keep : List Bool) (i j : Nat) (h : kp keep i = true) (hij : i < j) : pl keep i < pl keep j := by
  have := pl_kept keep i h
  have := pl_mono keep (i + 1) j (by omega)
  omega
theorem pl_inj (keep : List Bool) (i j : Nat) (hi : kp keep i = true) (hj : kp keep j = true) (h : pl keep i = pl keep j) : i = j := by
  by_cases q : i < j
  · have := pl_lt keep i j hi q; omega
  · by_cases q2 : j < i
    · have := pl_lt keep j i hj q2; omega
    · omega
theorem onlyN_len (L : List In) (keep : List Bool) (n : Nat) : (onlyN L keep n).length = pl keep n := by
  induction n with
  | zero => rfl
  | succ n ih => simp only [onlyN, pl, List.length_append, ih]; split <;> rfl
theorem onlyN_at (L : List In) (keep : List Bool) (i : Nat) (hk : kp keep i = true) : ∀ n, i < n → (onlyN L keep n)[pl keep i]? = some (moved keep i (L[i]?.getD ⟨0, 0, 0, 0⟩)) := by
  intro n
  induction n with
  | zero => intro h; omega
  | succ n ih =>
    intro h
    have hl := onlyN_len L keep n
    simp only [onlyN]
    by_cases q : i = n
    · subst q
      rw [if_pos hk, List.getElem?_append_right (by omega), hl]
      simp
    · have := pl_lt keep i n hk (by omega)
      rw [List.getElem?_append_left (by omega)]
      exact ih (by omega)
theorem onlyN_ex (L : List In) (keep : List Bool) : ∀ n q, q < (onlyN L keep n).length → ∃ i, i < n ∧ kp keep i = true ∧ pl keep i = q := by
  intro n
  induction n with
  | zero => intro q h; simp [onlyN] at h
  | succ n ih =>
    intro q h
    by_cases z : q < (onlyN L keep n).length
    · obtain ⟨i, h1, h2, h3⟩ := ih q z
      exact ⟨i, by omega, h2, h3⟩
    · rw [onlyN_len] at h z
      simp only [pl] at h
      split at h
      · next hk => exact ⟨n, by omega, hk, by omega⟩
      · omega
theorem only_len (L : List In) (keep : List Bool) : (only L keep).length = pl keep L.length := onlyN_len _ _ _
theorem only_lt (L : List In) (keep : List Bool) (i : Nat) (hi : i < L.length) (hk : kp keep i = true) : pl keep i < (only L keep).length := by
  rw [only_len]; exact pl_lt keep i _ hk hi
theorem only_at (L : List In) (keep : List Bool) (i : Nat) (hi : i < L.length) (hk : kp keep i = true) : (only L keep)[pl keep i]'(only_lt L keep i hi hk) = moved keep i L[i] := by
  have := onlyN_at L keep i hk L.length hi
  rw [List.getElem?_eq_getElem hi] at this
  have h2 : (only L keep)[pl keep i]? = some (moved keep i L[i]) := this
  rw [List.getElem?_eq_getElem (only_lt L keep i hi hk)] at h2
  exact Option.some.inj h2
theorem only_ex (L : List In) (keep : List Bool) (q : Nat) (h : q < (only L keep).length) : ∃ i, i < L.length ∧ kp keep i = true ∧ pl keep i = q := onlyN_ex L keep L.length q h

theorem moved_op (keep : List Bool) (i : Nat) (x : In) : (moved keep i x).op = x.op := by
  unfold moved; split
  · rfl
  · split <;> rfl
theorem moved_k (keep : List Bool) (i : Nat) (x : In) (h : x.op ≠ 10) : (moved keep i x).k = x.k := by
  unfold moved; rw [if_neg h]; split <;> rfl
theorem test_ne (op : Int) (h : isTest op = true) : 11 ≤ op ∧ op ≤ 14 := by
  have := isTest_iff op
  rw [h] at this
  simpa using this.symm
theorem moved_yes (keep : List Bool) (i : Nat) (x : In) (a : Int) (h : x.op ≠ 10) : yes (moved keep i x) a = yes x a := by
  unfold yes; rw [moved_op, moved_k keep i x h]
theorem moved_step (keep : List Bool) (i : Nat) (x : In) (r : ByteArray) (m : Mc) : stepM r (moved keep i x) m = stepM r x m := by
  by_cases h : x.op = 10
  · unfold stepM becomes
    rw [moved_op, h]
    rfl
  · unfold stepM becomes
    rw [moved_op, moved_k keep i x h]
theorem btw_in (keep : List Bool) (i to : Nat) (hi : i < to) (ht : to < keep.length) (hk : kp keep i = true) : btw keep i to = ((pl keep to - pl keep i - 1 : Nat) : Int) ∧ pl keep i + 1 ≤ pl keep to ∧ pl keep to ≤ pl keep i + 1 + (to - (i + 1)) := by
  have h1 := pl_lt keep i to hk hi
  have h2 := pl_kept keep i hk
  have h3 := pl_mono keep (i + 1) to (by omega)
  unfold btw
  rw [if_pos ⟨hi, ht⟩]
  omega
/-- which instructions may be left out -/
structure OnlyOk (L : List In) (keep : List Bool) : Prop where
  len : keep.length = L.length
  on : ∀ i (h : i < L.length), kp keep i = true → ∀ to ∈ tos i L[i], ∃ j, to ≤ j ∧ j < L.length ∧ kp keep j = true
  any : ∃ j, j < L.length ∧ kp keep j = true
theorem only_sound {L : List In} {keep : List Bool} (hs : SoundList L) (ho : OnlyOk L keep) : SoundList (only L keep) ∧ (only L keep).length ≤ L.length := by
  have hlen := only_len L keep
  have hle : pl keep L.length ≤ L.length := by have := pl_mono keep 0 L.length (by omega); simp only [pl] at this; omega
  have hpos : 0 < (only L keep).length := by
    obtain ⟨j, h1, h2⟩ := ho.any
    have := only_lt L keep j h1 h2
    omega
  have hL := hs.1.1
  have key : ∀ q (h : q < (only L keep).length), InRng (only L keep)[q] ∧ wrongE (only L keep)[q] (((only L keep).length - (q + 1) : Nat) : Int) = 0 := by
    intro q h
    obtain ⟨i, hi, hk, rfl⟩ := only_ex L keep q h
    rw [only_at L keep i hi hk]
    have hw := (wrong_iff _ _).1 (hs.2.2.1 i hi)
    have hr := hs.1.2 i hi
    have hton := tos_on i L[i]
    have hin := hs.tos_in i hi
    have hon := ho.on i hi hk
    have hb : ∀ to ∈ tos i L[i], btw keep i to = ((pl keep to - pl keep i - 1 : Nat) : Int) ∧ pl keep i + 1 ≤ pl keep to ∧ pl keep to ≤ pl keep i + 1 + (to - (i + 1)) ∧ pl keep to < pl keep L.length := by
      intro to ht
      have h1 := btw_in keep i to (hton to ht) (by rw [ho.len]; exact hin to ht) hk
      obtain ⟨j, j1, j2, j3⟩ := hon to ht
      have := pl_mono keep to j j1
      have := pl_lt keep j L.length j3 j2
      exact ⟨h1.1, h1.2.1, h1.2.2, by omega⟩
    have hpl := pl_lt keep i L.length hk hi
    rw [hlen]
    generalize L[i] = X at *
    obtain ⟨op, t, f, k⟩ := X
    obtain ⟨x1, x2, x3, x4, x5, x6, x7, x8⟩ := hr
    obtain ⟨w1, w2, w3, w4, w5, w6⟩ := hw
    simp only at x1 x2 x3 x4 x5 x6 x7 x8 w1 w2 w3 w5 w6
    unfold moved
    simp only
    by_cases h10 : op = 10
    · subst h10
      rw [if_pos rfl]
      have := hb (i + 1 + k.toNat) (by simp [tos, isTest])
      have hn : isTest 10 = false := rfl
      have := w2 hn
      refine ⟨⟨by simp only; omega, by simp only; omega, by simp only; omega, by simp only; omega, by simp only; omega, by simp only; omega, by simp only; omega, by simp only; omega⟩, (wrong_iff _ _).2 ⟨by simp only; omega, fun _ => by simp only; omega, fun q => by simp only at q; omega, ?_, fun _ => by simp only; omega, fun q => by simp only at q; rw [hn] at q; cases q⟩⟩
      unfold mayB
      simp only
      rw [if_neg (by omega)]
      rfl
    · rw [if_neg h10]
      by_cases ht : isTest op = true
      · rw [if_pos ht]
        have h11 := test_ne op ht
        have hT := hb (i + 1 + t.toNat) (by simp [tos, ht])
        have hF := hb (i + 1 + f.toNat) (by simp [tos, ht])
        have hm : ¬ (15 < t ∨ 15 < f) := by
          intro q
          unfold mayB at w4
          simp only at w4
          rw [if_pos q] at w4
          cases w4
        refine ⟨⟨by simp only; omega, by simp only; omega, by simp only; omega, by simp only; omega, by simp only; omega, by simp only; omega, by simp only; omega, by simp only; omega⟩, (wrong_iff _ _).2 ⟨by simp only; omega, fun q => by simp only at q; rw [ht] at q; exact absurd q (by decide), fun q => by simp only at q; omega, ?_, fun q => by simp only at q; omega, fun _ => by simp only; omega⟩⟩
        unfold mayB
        simp only
        rw [if_neg (by omega), if_neg (by omega), if_neg (by omega), if_neg (by omega), if_neg (by omega)]
      · rw [if_neg ht]
        exact ⟨⟨x1, x2, x3, x4, x5, x6, x7, x8⟩, (wrong_iff _ _).2 ⟨w1, w2, w3, w4, fun q => absurd q h10, fun q => absurd q ht⟩⟩
  refine ⟨⟨⟨by omega, fun q h => (key q h).1⟩, hpos, fun q h => (key q h).2, fun h => ?_⟩, by omega⟩
  obtain ⟨i, hi, hk, he⟩ := only_ex L keep ((only L keep).length - 1) (by omega)
  have hat := only_at L keep i hi hk
  have hat2 : (only L keep)[(only L keep).length - 1]'(by omega) = moved keep i L[i] := by rw [← hat]; congr 1; exact he.symm
  rw [hat2, moved_op]
  by_cases h15 : L[i].op = 15
  · exact Or.inl h15
  by_cases h16 : L[i].op = 16
  · exact Or.inr h16
  exfalso
  have hex : ∃ to, to ∈ tos i L[i] := by
    unfold tos
    split
    · exact ⟨_, List.mem_cons_self ..⟩
    · split
      · exact ⟨_, List.mem_cons_self ..⟩
      · rw [if_neg (by omega)]; exact ⟨_, List.mem_cons_self ..⟩
  obtain ⟨to, ht⟩ := hex
  obtain ⟨j, j1, j2, j3⟩ := ho.on i hi hk to ht
  have := tos_on i _ to ht
  have := pl_lt keep i j hk (by omega)
  have := only_lt L keep j j2 j3
  omega
theorem lt_add1 (i k : Nat) : i < i + 1 + k := by omega
/-- a run with what is left out and one without -/
theorem only_run (r : ByteArray) {L : List In} {keep : List Bool} (hlen : keep.length = L.length) (Inv : Nat → Mc → Prop)
    (hstep : ∀ i (h : i < L.length) m, Inv i m → L[i].op ≠ 15 → L[i].op ≠ 16 → Inv (i + 1 + (hop L[i] m.a).toNat) (stepM r L[i] m))
    (hdrop : ∀ i (h : i < L.length) m, Inv i m → kp keep i = false → L[i].op = 1 ∧ stepM r L[i] m = m) :
    ∀ n i m v, Ends r (L.drop i) m v n → Inv i m → ∃ n', n' ≤ n ∧ Ends r ((only L keep).drop (pl keep i)) m v n' := by
  intro n
  induction n with
  | zero => intro i m v h; exact absurd (ends_pos h) (by omega)
  | succ n ih =>
    intro i m v h hinv
    obtain ⟨hi, hc⟩ := ends_at h
    cases hk : kp keep i
    · obtain ⟨hop1, hst⟩ := hdrop i hi m hinv hk
      rcases hc with ⟨h1, _⟩ | ⟨h1, _⟩ | ⟨h15, h16, n', hn, he⟩
      · omega
      · omega
      · have hs := hstep i hi m hinv h15 h16
        have hh : (hop L[i] m.a).toNat = 0 := by
          unfold hop; rw [hop1]; rfl
        rw [hst, hh] at hs he
        have : n' = n := by omega
        subst this
        obtain ⟨n2, h2, h3⟩ := ih (i + 1) m v he hs
        rw [pl_drop keep i hk] at h3
        exact ⟨n2, by omega, h3⟩
    · have hlt := only_lt L keep i hi hk
      have hat := only_at L keep i hi hk
      rcases hc with ⟨h1, h2, h3⟩ | ⟨h1, h2, h3⟩ | ⟨h15, h16, n', hn, he⟩
      · refine ⟨1, by omega, ?_⟩
        have := @ends_ret r _ _ m hlt (by rw [hat, moved_op]; exact h1)
        rw [hat, moved_k keep i _ (by omega)] at this
        rw [h2]; exact this
      · refine ⟨1, by omega, ?_⟩
        have := @ends_ans r _ _ m hlt (by rw [hat, moved_op]; exact h1)
        rw [h2]; exact this
      · have hs := hstep i hi m hinv h15 h16
        have : n' = n := by omega
        subst this
        obtain ⟨n2, h2, h3⟩ := ih _ _ v he hs
        obtain ⟨hto, hc⟩ := ends_at he
        have hto := id hto
        refine ⟨n2 + 1, by omega, ends_step hlt (by rw [hat, moved_op]; exact h15) (by rw [hat, moved_op]; exact h16) ?_⟩
        rw [hat, moved_step]
        have hh : pl keep i + 1 + (hop (moved keep i L[i]) m.a).toNat = pl keep (i + 1 + (hop L[i] m.a).toNat) := by
          have hb := fun to h1 h2 => btw_in keep i to h1 (by rw [hlen]; exact h2) hk
          generalize L[i] = X at *
          have hy := fun h => moved_yes keep i X m.a h
          have ho := moved_op keep i X
          by_cases h10 : X.op = 10
          · have e1 : hop X m.a = X.k := by unfold hop; rw [if_pos h10]
            have e2 : hop (moved keep i X) m.a = btw keep i (i + 1 + X.k.toNat) := by
              unfold hop; rw [ho, if_pos h10]; unfold moved; rw [if_pos h10]
            rw [e1] at hto ⊢
            rw [e2]
            have := hb (i + 1 + X.k.toNat) (lt_add1 _ _) hto
            clear hto he h3 hc
            omega
          · by_cases ht : isTest X.op = true
            · have e2 : hop (moved keep i X) m.a = if yes X m.a = true then btw keep i (i + 1 + X.t.toNat) else btw keep i (i + 1 + X.f.toNat) := by
                unfold hop; rw [ho, if_neg h10, if_pos ht, hy h10]; unfold moved; rw [if_neg h10, if_pos ht]
              have e1 : hop X m.a = if yes X m.a = true then X.t else X.f := by unfold hop; rw [if_neg h10, if_pos ht]
              rw [e1] at hto ⊢
              rw [e2]
              by_cases z : yes X m.a = true
              · rw [if_pos z] at hto ⊢
                rw [if_pos z]
                have := hb (i + 1 + X.t.toNat) (lt_add1 _ _) hto
                clear hto he h3 hc
                omega
              · rw [if_neg z] at hto ⊢
                rw [if_neg z]
                have := hb (i + 1 + X.f.toNat) (lt_add1 _ _) hto
                clear hto he h3 hc
                omega
            · have e1 : hop X m.a = 0 := by unfold hop; rw [if_neg h10, if_neg ht]
              have e2 : hop (moved keep i X) m.a = 0 := by unfold hop; rw [ho, if_neg h10, if_neg ht]
              rw [e1, e2]
              have := pl_kept keep i hk
              simp only [Int.toNat_zero, Nat.add_zero]
              omega
        rw [hh]
        exact h3
/-- the ways of what is kept -/
theorem edges_moved {L : List In} {keep : List Bool} (hs : SoundList L) (hlen : keep.length = L.length) (i : Nat) (hi : i < L.length) (hk : kp keep i = true) (bt ot : Int) :
    edges (pl keep i) (moved keep i L[i]) bt ot = (edges i L[i] bt ot).map fun e => (pl keep e.1, e.2) := by
  have hin := hs.tos_in i hi
  have hton := tos_on i L[i]
  have hb : ∀ to ∈ tos i L[i], pl keep i + 1 + (btw keep i to).toNat = pl keep to := by
    intro to ht
    have := btw_in keep i to (hton to ht) (by rw [hlen]; exact hin to ht) hk
    omega
  have h1 := pl_kept keep i hk
  generalize L[i] = X at *
  unfold edges
  rw [moved_op]
  unfold tos at hb
  by_cases ht : isTest X.op = true
  · have h10 : X.op ≠ 10 := by have := test_ne _ ht; omega
    rw [if_pos ht] at hb ⊢
    rw [if_pos ht]
    have hT := hb (i + 1 + X.t.toNat) (by simp)
    have hF := hb (i + 1 + X.f.toNat) (by simp)
    unfold moved
    rw [if_neg h10, if_pos ht]
    simp only [List.map_cons, List.map_nil]
    rw [hT, hF]
  · rw [if_neg ht] at hb ⊢
    rw [if_neg ht]
    by_cases h10 : X.op = 10
    · rw [if_pos h10] at hb ⊢
      rw [if_pos h10]
      have hT := hb (i + 1 + X.k.toNat) (by simp)
      unfold moved
      rw [if_pos h10]
      simp only [List.map_cons, List.map_nil]
      rw [hT]
    · rw [if_neg h10] at hb ⊢
      rw [if_neg h10]
      by_cases he : X.op = 15 ∨ X.op = 16
      · rw [if_pos he, if_pos he]; rfl
      · rw [if_neg he, if_neg he]
        simp only [List.map_cons, List.map_nil]
        rw [h1]
end Go.Proofs.Ytldongbimhngfaa
/- The passes d and l, as plain functions. -/
namespace Go.Proofs.Ytldongbimhngfaa.Sc
/-- the word that is known behind an instruction -/
def wordB (x : In) (a : Int) : Int := if x.op = 1 then x.k else if x.op = 4 ∨ x.op = 10 ∨ isTest x.op = true then a else -1
def psD : Ps := ⟨fun x _ => x, fun _ _ => -1, fun _ _ => -1, -1⟩
def psL : Ps := ⟨fun x _ => x, wordB, wordB, -1⟩
def keepD (L : List In) : List Bool := (List.range L.length).map fun i => fact psD L i != -2
def keepL (L : List In) : List Bool := (List.range L.length).map fun i => (L[i]?.getD ⟨0, 0, 0, 0⟩).op != 1 || fact psL L i != (L[i]?.getD ⟨0, 0, 0, 0⟩).k
def passD (L : List In) : List In := only L (keepD L)
def passL (L : List In) : List In := only L (keepL L)
end Go.Proofs.Ytldongbimhngfaa.Sc
namespace Go.Proofs.Ytldongbimhngfaa
open Go.RowKit Sc
set_option linter.unusedVariables false
set_option linter.unusedSimpArgs false

theorem leads_rng (R : Int → Prop) (h1 : R (-1)) (A : List Int) (hA : ∀ j, fAt A j = -2 ∨ R (fAt A j)) (E : List (Nat × Int)) (hE : ∀ e ∈ E, R e.2) : ∀ j, fAt (leads A E) j = -2 ∨ R (fAt (leads A E) j) := by
  induction E with
  | nil => exact hA
  | cons e E ih =>
    have ih := ih fun e' he' => hE e' (by simp [he'])
    have hv := hE e (by simp)
    intro j
    simp only [leads]
    by_cases q : e.1 = j
    · subst q
      by_cases hl : e.1 < (leads A E).length
      · rw [lead_at _ _ _ hl]
        split
        · exact Or.inr hv
        · split
          · exact Or.inr hv
          · exact Or.inr h1
      · left
        have : (lead (leads A E) e.1 e.2)[e.1]? = none := by rw [List.getElem?_eq_none]; rw [lead_len]; omega
        unfold fAt
        rw [this]
        rfl
    · rw [lead_other _ _ _ _ q]; exact ih j
/-- what is known stays in its bounds -/
theorem fact_rng (p : Ps) (L : List In) (R : Int → Prop) (h1 : R (-1)) (h0 : R p.first) (hE : ∀ i (h : i < L.length) a, R a → a ≠ -2 → ∀ e ∈ edges i (p.re L[i] a) (p.bt (p.re L[i] a) a) (p.ot (p.re L[i] a) a), R e.2) : ∀ j, fact p L j = -2 ∨ R (fact p L j) := by
  have key : ∀ n, ∀ j, fAt (facN p L n) j = -2 ∨ R (fAt (facN p L n) j) := by
    intro n
    induction n with
    | zero =>
      intro j
      simp only [facN]
      by_cases hl : 0 < L.length
      · rw [fac0_at _ _ _ hl]; split
        · exact Or.inr h0
        · exact Or.inl rfl
      · left
        have : (fac0 p L.length)[j]? = none := by rw [List.getElem?_eq_none]; rw [fac0_len]; omega
        unfold fAt; rw [this]; rfl
    | succ n ih =>
      simp only [facN]
      refine leads_rng R h1 _ ih _ ?_
      split
      · next x hx =>
        obtain ⟨hn, rfl⟩ := List.getElem?_eq_some_iff.1 hx
        intro e he
        unfold facE at he
        split at he
        · simp at he
        · next hne =>
          rcases ih n with h | h
          · exact absurd h hne
          · exact hE n hn _ h hne e he
      · intro e he; simp at he
  exact key L.length
/-- the facts of a sound list that is put into a sound list -/
theorem facts_good (p : Ps) (L : List In) (hpos : 0 < L.length) (R : Int → Prop) (h1 : R (-1)) (h2 : ¬ R (-2)) (h0 : R p.first) (hE : ∀ i (h : i < L.length) a, R a → a ≠ -2 → ∀ e ∈ edges i (p.re L[i] a) (p.bt (p.re L[i] a) a) (p.ot (p.re L[i] a) a), R e.2 ∧ e.1 < L.length) :
    Facts (put p L) p.bt p.ot p.first (fact p L) ∧ ∀ j, fact p L j = -2 ∨ R (fact p L j) := by
  have hr := fact_rng p L R h1 h0 fun i h a ha hne e he => (hE i h a ha hne e he).1
  refine ⟨facts_of p L hpos fun i h e he => ?_, hr⟩
  unfold facE at he
  split at he
  · simp at he
  · next hne =>
    have := hE i h _ ((hr i).resolve_left hne) hne e he
    exact ⟨this.2, fun q => h2 (q ▸ this.1)⟩
theorem put_id (p : Ps) (h : ∀ x a, p.re x a = x) (L : List In) : put p L = L := by
  refine List.ext_getElem (put_len p L) fun i h1 h2 => ?_
  rw [put_at p L i h2, h]
theorem edges_val (i : Nat) (x : In) (bt ot : Int) : ∀ e ∈ edges i x bt ot, e.2 = bt ∨ e.2 = ot := by
  intro e he
  unfold edges at he
  split at he
  · simp at he; rcases he with rfl | rfl <;> simp
  · split at he
    · simp at he; subst he; simp
    · split at he
      · simp at he
      · simp at he; subst he; simp
theorem hop_tos (i : Nat) (x : In) (a : Int) (h15 : x.op ≠ 15) (h16 : x.op ≠ 16) : i + 1 + (hop x a).toNat ∈ tos i x := by
  by_cases ht : isTest x.op = true
  · have h10 : x.op ≠ 10 := by have := test_ne _ ht; omega
    have e1 : tos i x = [i + 1 + x.f.toNat, i + 1 + x.t.toNat] := by unfold tos; rw [if_pos ht]
    have e2 : hop x a = if yes x a = true then x.t else x.f := by unfold hop; rw [if_neg h10, if_pos ht]
    rw [e1, e2]
    split <;> simp
  · by_cases h10 : x.op = 10
    · have e1 : tos i x = [i + 1 + x.k.toNat] := by unfold tos; rw [if_neg ht, if_pos h10]
      have e2 : hop x a = x.k := by unfold hop; rw [if_pos h10]
      rw [e1, e2]; simp
    · have e1 : tos i x = [i + 1] := by unfold tos; rw [if_neg ht, if_neg h10, if_neg (by omega)]
      have e2 : hop x a = 0 := by unfold hop; rw [if_neg h10, if_neg ht]
      rw [e1, e2]; simp
theorem facts_rch {L : List In} {bt ot : In → Int → Int} {first : Int} {a : Nat → Int} (hF : Facts L bt ot first a) (h0 : first ≠ -2) : ∀ j, Rch L j → a j ≠ -2 := by
  intro j h
  refine h (fun j => a j ≠ -2) (by rw [hF.zero]; exact h0) (fun i to h ih ht => ?_)
  obtain ⟨e, he, rfl⟩ := tos_edges _ _ (bt _ (a _)) (ot _ (a _)) _ ht
  exact (hF.lead _ h e ih he).1
theorem rch_facts {L : List In} {bt ot : In → Int → Int} {first : Int} {a : Nat → Int} (hF : Facts L bt ot first a) : ∀ n j, j < n → a j ≠ -2 → Rch L j := by
  intro n
  induction n with
  | zero => intro j h; omega
  | succ n ih =>
    intro j hj ha
    by_cases q : j = 0
    · subst q; exact Rch.zero
    · obtain ⟨i, hi, e, h1, h2, h3⟩ := hF.some j (by omega) ha
      have := edges_on _ _ _ _ e h2
      have := ih i (by omega) h1
      exact h3 ▸ Rch.step hi this (edges_tos _ _ _ _ e h2)

theorem kp_keepD (L : List In) (i : Nat) : kp (keepD L) i = true ↔ i < L.length ∧ fact psD L i ≠ -2 := by
  unfold kp keepD
  by_cases h : i < L.length
  · simp [h]
  · simp [h]
theorem psD_facts {L : List In} (hs : SoundList L) : Facts L psD.bt psD.ot (-1) (fact psD L) ∧ ∀ j, fact psD L j = -2 ∨ fact psD L j = -1 := by
  have := facts_good psD L hs.2.1 (fun a => a = -1) rfl (by decide) rfl (fun i h a ha hne e he => by
    refine ⟨?_, hs.tos_in i h _ (edges_tos _ _ _ _ e he)⟩
    rcases edges_val _ _ _ _ e he with q | q <;> exact q)
  rw [put_id psD (fun _ _ => rfl)] at this
  exact this
theorem passD_good {L : List In} (hs : SoundList L) : Better1 L (passD L) ∧ ∀ q, q < (passD L).length → Rch (passD L) q := by
  obtain ⟨hF, hr⟩ := psD_facts hs
  have hlen : (keepD L).length = L.length := by simp [keepD]
  have h0 : fact psD L 0 ≠ -2 := by rw [hF.zero]; decide
  have hto : ∀ i (h : i < L.length), fact psD L i ≠ -2 → ∀ to ∈ tos i L[i], to < L.length ∧ fact psD L to ≠ -2 := by
    intro i h ha to ht
    obtain ⟨e, he, rfl⟩ := tos_edges i L[i] (psD.bt L[i] (fact psD L i)) (psD.ot L[i] (fact psD L i)) to ht
    exact ⟨hs.tos_in i h _ ht, (hF.lead i h e ha he).1⟩
  have hok : OnlyOk L (keepD L) := by
    refine ⟨hlen, fun i h hk to ht => ?_, 0, hs.2.1, (kp_keepD L 0).2 ⟨hs.2.1, h0⟩⟩
    have := hto i h ((kp_keepD L i).1 hk).2 to ht
    exact ⟨to, Nat.le_refl _, this.1, (kp_keepD L to).2 this⟩
  have hso := only_sound hs hok
  refine ⟨⟨hso.1, hso.2, fun r v n e => ?_⟩, ?_⟩
  · have := only_run r hlen (fun i _ => i < L.length ∧ fact psD L i ≠ -2) (fun i h m hi h15 h16 => hto i h hi.2 _ (hop_tos i _ m.a h15 h16)) (fun i h m hi hk => by
      have := (kp_keepD L i).2 hi
      rw [hk] at this; cases this) n 0 _ v (by rw [List.drop_zero]; exact e) ⟨hs.2.1, h0⟩
    simp only [pl, List.drop_zero] at this
    exact this
  · have key : ∀ n i, i < n → i < L.length → fact psD L i ≠ -2 → Rch (only L (keepD L)) (pl (keepD L) i) := by
      intro n
      induction n with
      | zero => intro i h; omega
      | succ n ih =>
        intro i hn hi ha
        by_cases q : i = 0
        · subst q; exact Rch.zero
        · obtain ⟨j, hj, e, h1, h2, h3⟩ := hF.some i (by omega) ha
          have hon := edges_on _ _ _ _ e h2
          have hk := (kp_keepD L j).2 ⟨hj, h1⟩
          have hR := ih j (by omega) hj h1
          refine Rch.step (only_lt L _ j hj hk) hR ?_
          rw [only_at L _ j hj hk]
          have hm := edges_moved hs hlen j hj hk (psD.bt L[j] (fact psD L j)) (psD.ot L[j] (fact psD L j))
          have : (pl (keepD L) e.1, e.2) ∈ edges (pl (keepD L) j) (moved (keepD L) j L[j]) (psD.bt L[j] (fact psD L j)) (psD.ot L[j] (fact psD L j)) := by
            rw [hm]; exact List.mem_map.2 ⟨e, h2, rfl⟩
          have := edges_tos _ _ _ _ _ this
          rw [h3] at this
          exact this
    intro q hq
    obtain ⟨i, hi, hk, rfl⟩ := only_ex L (keepD L) q hq
    exact key (i + 1) i (by omega) hi ((kp_keepD L i).1 hk).2

theorem kp_keepL (L : List In) (i : Nat) (h : i < L.length) : kp (keepL L) i = true ↔ (L[i].op ≠ 1 ∨ fact psL L i ≠ L[i].k) := by
  unfold kp keepL
  simp [h]
theorem wordB_rng (x : In) (hx : InRng x) (a : Int) (ha : -1 ≤ a ∧ a ≤ 65535) : -1 ≤ wordB x a ∧ wordB x a ≤ 65535 := by
  unfold InRng at hx
  unfold wordB
  split
  · omega
  · split <;> omega
theorem psL_facts {L : List In} (hs : SoundList L) : Facts L wordB wordB (-1) (fact psL L) ∧ ∀ j, fact psL L j = -2 ∨ (-1 ≤ fact psL L j ∧ fact psL L j ≤ 65535) := by
  have := facts_good psL L hs.2.1 (fun a => -1 ≤ a ∧ a ≤ 65535) (by omega) (by omega) (by show -1 ≤ (-1 : Int) ∧ _; decide) (fun i h a ha hne e he => by
    refine ⟨?_, hs.tos_in i h _ (edges_tos _ _ _ _ e he)⟩
    have := wordB_rng L[i] (hs.1.2 i h) a ha
    rcases edges_val _ _ _ _ e he with q | q <;> rw [q] <;> exact this)
  rw [put_id psL (fun _ _ => rfl)] at this
  exact this
theorem becomes_not (x : In) (a : Int) (h : x.op < 5 ∨ 9 < x.op) : becomes x a = a := by
  unfold becomes
  rw [if_neg (by omega), if_neg (by omega), if_neg (by omega), if_neg (by omega), if_neg (by omega)]
theorem cellSet_a (m : Mc) (k : Int) : (cellSet m k).a = m.a := by
  unfold cellSet
  split
  · rfl
  · split
    · rfl
    · split <;> rfl
theorem wordB_step (r : ByteArray) (x : In) (m : Mc) (a : Int) (ha : 0 ≤ a → m.a = Sv.wordAt r a) : 0 ≤ wordB x a → (stepM r x m).a = Sv.wordAt r (wordB x a) := by
  intro h
  unfold wordB at *
  unfold stepM
  by_cases h1 : x.op = 1
  · rw [if_pos h1, if_pos h1]
  · rw [if_neg h1] at h ⊢
    rw [if_neg h1]
    by_cases h4 : x.op = 4 ∨ x.op = 10 ∨ isTest x.op = true
    · rw [if_pos h4] at h ⊢
      have : x.op = 4 ∨ 9 < x.op := by
        rcases h4 with q | q | q
        · exact Or.inl q
        · omega
        · have := test_ne _ q; omega
      rw [← ha h]
      rw [if_neg (by omega), if_neg (by omega)]
      split
      · exact cellSet_a _ _
      · exact becomes_not x m.a (by omega)
    · rw [if_neg h4] at h; omega
theorem passL_better {L : List In} (hs : SoundList L) : Better1 L (passL L) := by
  obtain ⟨hF, hr⟩ := psL_facts hs
  have hlen : (keepL L).length = L.length := by simp [keepL]
  have h0 : fact psL L 0 = -1 := hF.zero
  have hlast : kp (keepL L) (L.length - 1) = true := by
    have hp := hs.2.1
    rw [kp_keepL L _ (by omega)]
    left
    have := hs.2.2.2 hp
    omega
  have hok : OnlyOk L (keepL L) := by
    refine ⟨hlen, fun i h hk to ht => ?_, L.length - 1, by have := hs.2.1; omega, hlast⟩
    have := hs.tos_in i h to ht
    exact ⟨L.length - 1, by omega, by omega, hlast⟩
  have hso := only_sound hs hok
  refine ⟨hso.1, hso.2, fun r v n e => ?_⟩
  have := only_run r hlen (fun i m => fact psL L i ≠ -2 ∧ (0 ≤ fact psL L i → m.a = Sv.wordAt r (fact psL L i))) (fun i h m hi h15 h16 => by
      obtain ⟨e, he, he1⟩ := tos_edges i L[i] (wordB L[i] (fact psL L i)) (wordB L[i] (fact psL L i)) _ (hop_tos i _ m.a h15 h16)
      have hl := hF.lead i h e hi.1 he
      have hv : e.2 = wordB L[i] (fact psL L i) := by rcases edges_val _ _ _ _ e he with q | q <;> exact q
      rw [he1, hv] at hl
      refine ⟨hl.1, fun hp => ?_⟩
      rcases hl.2 with q | q
      · rw [q] at hp ⊢
        exact wordB_step r L[i] m _ hi.2 hp
      · omega) (fun i h m hi hk => by
      have hk2 : L[i].op = 1 ∧ fact psL L i = L[i].k := by
        by_cases q1 : L[i].op = 1
        · by_cases q2 : fact psL L i = L[i].k
          · exact ⟨q1, q2⟩
          · have := (kp_keepL L i h).2 (Or.inr q2); rw [hk] at this; cases this
        · have := (kp_keepL L i h).2 (Or.inl q1); rw [hk] at this; cases this
      refine ⟨hk2.1, ?_⟩
      have hk0 := hs.1.2 i h
      unfold InRng at hk0
      have hm := hi.2 (by omega)
      unfold stepM
      rw [if_pos hk2.1, ← hk2.2, ← hm]) n 0 _ v (by rw [List.drop_zero]; exact e) ⟨by omega, fun q => by omega⟩
  simp only [pl, List.drop_zero] at this
  exact this
end Go.Proofs.Ytldongbimhngfaa
/- What is known in a list behind the pass l; the pass k. -/
namespace Go.Proofs.Ytldongbimhngfaa.Sc
/-- what was known of the one that is kept -/
def backA (L : List In) (keep : List Bool) (a : Nat → Int) (q : Nat) : Int :=
  match (List.range L.length).find? (fun i => kp keep i && (pl keep i == q)) with
  | some i => a i
  | none => -2
end Go.Proofs.Ytldongbimhngfaa.Sc
namespace Go.Proofs.Ytldongbimhngfaa
open Go.RowKit Sc
set_option linter.unusedVariables false
set_option linter.unusedSimpArgs false

theorem backA_at (L : List In) (keep : List Bool) (a : Nat → Int) (i : Nat) (hi : i < L.length) (hk : kp keep i = true) : backA L keep a (pl keep i) = a i := by
  unfold backA
  cases hf : (List.range L.length).find? (fun j => kp keep j && (pl keep j == pl keep i)) with
  | none =>
    have := List.find?_eq_none.1 hf i (List.mem_range.2 hi)
    simp [hk] at this
  | some j =>
    have h1 := List.find?_some hf
    simp at h1
    show a j = a i
    rw [pl_inj keep j i h1.1 hk h1.2]
theorem backA_out (L : List In) (keep : List Bool) (a : Nat → Int) (q : Nat) (h : backA L keep a q ≠ -2) : ∃ i, i < L.length ∧ kp keep i = true ∧ pl keep i = q := by
  unfold backA at h
  cases hf : (List.range L.length).find? (fun j => kp keep j && (pl keep j == q)) with
  | none => rw [hf] at h; exact absurd rfl h
  | some j =>
    have h1 := List.find?_some hf
    have h2 := List.mem_of_find?_eq_some hf
    simp at h1 h2
    exact ⟨j, h2, h1.1, h1.2⟩
theorem edges_load (i : Nat) (x : In) (bt ot : Int) (h : x.op = 1) : edges i x bt ot = [(i + 1, ot)] := by
  unfold edges
  rw [if_neg (by rw [h]; decide), if_neg (by omega), if_neg (by omega)]
/-- behind l the facts are what they were -/
theorem only_facts {L : List In} {keep : List Bool} {a : Nat → Int} (hs : SoundList L) (hlen : keep.length = L.length) (hF : Facts L wordB wordB (-1) a)
    (hlast : kp keep (L.length - 1) = true)
    (hd : ∀ i (h : i < L.length), kp keep i = false → L[i].op = 1 ∧ a i = L[i].k) : Facts (only L keep) wordB wordB (-1) (backA L keep a) := by
  have hpos := hs.2.1
  have hk0 : kp keep 0 = true := by
    cases q : kp keep 0
    · have h1 := (hd 0 hpos q).2
      rw [hF.zero] at h1
      have := hs.1.2 0 hpos
      unfold InRng at this
      omega
    · rfl
  have hnn : ∀ i (h : i < L.length), 0 ≤ L[i].k := fun i h => by have := hs.1.2 i h; unfold InRng at this; omega
  have hwm : ∀ i (h : i < L.length) v, wordB (moved keep i L[i]) v = wordB L[i] v := by
    intro i h v
    unfold wordB
    rw [moved_op]
    by_cases q : L[i].op = 1
    · rw [if_pos q, if_pos q, moved_k _ _ _ (by omega)]
    · rw [if_neg q, if_neg q]
  -- onward, to one that is kept
  have fwd : ∀ d j i (h : i < L.length) e, L.length - j ≤ d → j < L.length → a i ≠ -2 → e ∈ edges i L[i] (wordB L[i] (a i)) (wordB L[i] (a i)) → e.1 = j →
      ∃ j', j' < L.length ∧ kp keep j' = true ∧ pl keep j' = pl keep j ∧ a j' ≠ -2 ∧ (a j' = e.2 ∨ a j' = -1) := by
    intro d
    induction d with
    | zero => intro j i h e h1 h2; omega
    | succ d ih =>
      intro j i h e h1 h2 ha he hj
      have hl := hF.lead i h e ha he
      rw [hj] at hl
      cases q : kp keep j
      · obtain ⟨d1, d2⟩ := hd j h2 q
        have hne := hnn j h2
        have hv : a j = e.2 := by
          rcases hl.2 with z | z
          · exact z
          · omega
        have hj1 : j + 1 < L.length := hs.next j h2 (by omega) (by omega)
        have hw : wordB L[j] (a j) = e.2 := by
          unfold wordB; rw [if_pos d1]; omega
        obtain ⟨j', z1, z2, z3, z4, z5⟩ := ih (j + 1) j h2 (j + 1, wordB L[j] (a j)) (by omega) hj1 hl.1 (by rw [edges_load _ _ _ _ d1]; simp) rfl
        refine ⟨j', z1, z2, by rw [z3, pl_drop keep j q], z4, ?_⟩
        rw [← hw]; exact z5
      · exact ⟨j, h2, q, rfl, hl.1, hl.2⟩
  -- back, from one that is kept
  have bwd : ∀ n j i (h : i < L.length) e, j < n → a i ≠ -2 → e ∈ edges i L[i] (wordB L[i] (a i)) (wordB L[i] (a i)) → e.1 = j →
      ∃ i', ∃ h' : i' < L.length, ∃ e', kp keep i' = true ∧ a i' ≠ -2 ∧ e' ∈ edges i' L[i'] (wordB L[i'] (a i')) (wordB L[i'] (a i')) ∧ pl keep e'.1 = pl keep j ∧ e'.2 = e.2 := by
    intro n
    induction n with
    | zero => intro j i h e h1; omega
    | succ n ih =>
      intro j i h e hn ha he hj
      have hon := edges_on _ _ _ _ e he
      cases q : kp keep i
      · obtain ⟨d1, d2⟩ := hd i h q
        have hne := hnn i h
        rw [edges_load _ _ _ _ d1] at he
        simp at he
        have hw : wordB L[i] (a i) = L[i].k := by unfold wordB; rw [if_pos d1]
        have hi0 : 0 < i := by
          by_cases z : i = 0
          · subst z; rw [hk0] at q; cases q
          · omega
        obtain ⟨i2, h2, e2, a2, b2, c2⟩ := hF.some i hi0 ha
        have hl := hF.lead i2 h2 e2 a2 b2
        rw [c2] at hl
        obtain ⟨i', h', e', z1, z2, z3, z4, z5⟩ := ih i i2 h2 e2 (by omega) a2 b2 c2
        refine ⟨i', h', e', z1, z2, z3, ?_, ?_⟩
        · rw [z4, ← hj, he]; exact (pl_drop keep i q).symm
        · rw [z5, he]
          show e2.2 = wordB L[i] (a i)
          rcases hl.2 with z | z
          · rw [hw, ← d2, z]
          · omega
      · exact ⟨i, h, e, q, ha, he, by rw [hj], rfl⟩
  have hmv : ∀ i (h : i < L.length) (hk : kp keep i = true), edges (pl keep i) ((only L keep)[pl keep i]'(only_lt L keep i h hk)) (wordB ((only L keep)[pl keep i]'(only_lt L keep i h hk)) (a i)) (wordB ((only L keep)[pl keep i]'(only_lt L keep i h hk)) (a i)) = (edges i L[i] (wordB L[i] (a i)) (wordB L[i] (a i))).map fun e => (pl keep e.1, e.2) := by
    intro i h hk
    rw [only_at L keep i h hk, hwm i h]
    exact edges_moved hs hlen i h hk _ _
  refine ⟨?_, fun q h e ha he => ?_, fun j hj ha => ?_, fun j v hj ha hall => ?_⟩
  · have := backA_at L keep a 0 hpos hk0
    rw [show pl keep 0 = 0 from rfl] at this
    rw [this]; exact hF.zero
  · obtain ⟨i, hi, hk, rfl⟩ := only_ex L keep q h
    rw [backA_at L keep a i hi hk] at ha he
    rw [hmv i hi hk] at he
    obtain ⟨e', h1, rfl⟩ := List.mem_map.1 he
    have hin := hs.tos_in i hi _ (edges_tos _ _ _ _ e' h1)
    obtain ⟨j', z1, z2, z3, z4, z5⟩ := fwd L.length e'.1 i hi e' (by omega) hin ha h1 rfl
    simp only
    rw [← z3, backA_at L keep a j' z1 z2]
    exact ⟨z4, z5⟩
  · obtain ⟨i, hi, hk, rfl⟩ := backA_out L keep a j ha
    rw [backA_at L keep a i hi hk] at ha
    have hi0 : 0 < i := by
      by_cases z : i = 0
      · subst z; simp [pl] at hj
      · omega
    obtain ⟨i2, h2, e2, a2, b2, c2⟩ := hF.some i hi0 ha
    obtain ⟨i', h', e', z1, z2, z3, z4, z5⟩ := bwd (i + 1) i i2 h2 e2 (by omega) a2 b2 c2
    refine ⟨pl keep i', only_lt L keep i' h' z1, (pl keep e'.1, e'.2), ?_, ?_, z4⟩
    · rw [backA_at L keep a i' h' z1]; exact z2
    · rw [backA_at L keep a i' h' z1, hmv i' h' z1]
      exact List.mem_map.2 ⟨e', z3, rfl⟩
  · obtain ⟨i, hi, hk, rfl⟩ := backA_out L keep a j ha
    rw [backA_at L keep a i hi hk] at ha ⊢
    have hi0 : 0 < i := by
      by_cases z : i = 0
      · subst z; simp [pl] at hj
      · omega
    refine hF.all i v hi0 ha fun i2 h2 e2 a2 b2 c2 => ?_
    obtain ⟨i', h', e', z1, z2, z3, z4, z5⟩ := bwd (i + 1) i i2 h2 e2 (by omega) a2 b2 c2
    rw [← z5]
    refine hall (pl keep i') (only_lt L keep i' h' z1) (pl keep e'.1, e'.2) ?_ ?_ z4
    · rw [backA_at L keep a i' h' z1]; exact z2
    · rw [backA_at L keep a i' h' z1, hmv i' h' z1]
      exact List.mem_map.2 ⟨e', z3, rfl⟩
/-- a list that is done by l -/
def DoneL (N : List In) : Prop := ∃ b, Facts N wordB wordB (-1) b ∧ ∀ q (h : q < N.length), N[q].op = 1 → b q ≠ N[q].k
theorem passL_done {L : List In} (hs : SoundList L) : DoneL (passL L) := by
  obtain ⟨hF, hr⟩ := psL_facts hs
  have hlen : (keepL L).length = L.length := by simp [keepL]
  have hpos := hs.2.1
  refine ⟨_, only_facts hs hlen hF ?_ ?_, fun q h hop => ?_⟩
  · rw [kp_keepL L _ (by omega)]
    left
    have := hs.2.2.2 hpos
    omega
  · intro i h hk
    by_cases q1 : L[i].op = 1
    · by_cases q2 : fact psL L i = L[i].k
      · exact ⟨q1, q2⟩
      · have := (kp_keepL L i h).2 (Or.inr q2); rw [hk] at this; cases this
    · have := (kp_keepL L i h).2 (Or.inl q1); rw [hk] at this; cases this
  · obtain ⟨i, hi, hk, rfl⟩ := only_ex L (keepL L) q h
    rw [backA_at L _ _ i hi hk]
    have hat : (passL L)[pl (keepL L) i] = moved (keepL L) i L[i] := only_at L (keepL L) i hi hk
    rw [hat] at hop ⊢
    rw [moved_op] at hop
    rw [moved_k _ _ _ (by omega)]
    rcases (kp_keepL L i hi).1 hk with z | z
    · exact absurd hop z
    · exact z
end Go.Proofs.Ytldongbimhngfaa
namespace Go.Proofs.Ytldongbimhngfaa.Sc
/-- the number that is known along a way -/
def valueB (x : In) (yes : Bool) (a : Int) : Int := if x.op = 2 ∨ (x.op = 11 ∧ yes = true) then x.k else if x.op = 1 ∨ x.op = 3 ∨ a < 0 then -1 else becomes x a
def settledB (x : In) (a : Int) : In := if isTest x.op = true then ⟨10, 0, 0, hop x a⟩ else if x.op = 16 then ⟨15, 0, 0, a⟩ else x
def psK : Ps := ⟨fun x a => if 0 ≤ a then settledB x a else x, fun x a => valueB x true a, fun x a => valueB x false a, 0⟩
def passK (L : List In) : List In := put psK L
end Go.Proofs.Ytldongbimhngfaa.Sc
namespace Go.Proofs.Ytldongbimhngfaa
open Go.RowKit Sc
theorem valueB_rng (x : In) (yes : Bool) (a : Int) (hx : InRng x) (ha : -1 ≤ a ∧ a ≤ 65535) : -1 ≤ valueB x yes a ∧ valueB x yes a ≤ 65535 := by
  unfold InRng at hx
  unfold valueB
  split
  · omega
  · split
    · omega
    · have := becomes_rng x a (by omega) (by omega) (by omega) (by omega); omega
theorem hop_tf (x : In) (a : Int) (h : isTest x.op = true) : hop x a = x.t ∨ hop x a = x.f := by
  have := test_ne _ h
  unfold hop
  rw [if_neg (by omega), if_pos h]
  split
  · exact Or.inl rfl
  · exact Or.inr rfl
theorem re_rng (x : In) (a : Int) (hx : InRng x) (ha : -1 ≤ a ∧ a ≤ 65535) : InRng (psK.re x a) := by
  show InRng (if 0 ≤ a then settledB x a else x)
  split
  · unfold settledB
    split
    · next ht =>
      have := hop_tf x a ht
      unfold InRng at hx ⊢
      simp only
      omega
    · split
      · unfold InRng; simp only; omega
      · exact hx
  · exact hx
theorem re_tos (i : Nat) (x : In) (a : Int) : ∀ to ∈ tos i (psK.re x a), to ∈ tos i x := by
  show ∀ to ∈ tos i (if 0 ≤ a then settledB x a else x), to ∈ tos i x
  split
  · unfold settledB
    split
    · next ht =>
      have h0 := test_ne _ ht
      have h1 := hop_tos i x a (by omega) (by omega)
      intro to h
      simp [tos, isTest] at h
      subst h; exact h1
    · split
      · intro to h; simp [tos, isTest] at h
      · intro to h; exact h
  · intro to h; exact h
theorem psK_facts {L : List In} (hs : SoundList L) : Facts (passK L) psK.bt psK.ot 0 (fact psK L) ∧ ∀ j, fact psK L j = -2 ∨ (-1 ≤ fact psK L j ∧ fact psK L j ≤ 65535) := by
  exact facts_good psK L hs.2.1 (fun a => -1 ≤ a ∧ a ≤ 65535) (by omega) (by omega) (by show -1 ≤ (0 : Int) ∧ _; decide) (fun i h a ha hne e he => by
    refine ⟨?_, hs.tos_in i h _ (re_tos _ _ a _ (edges_tos _ _ _ _ e he))⟩
    have hr := re_rng L[i] a (hs.1.2 i h) ha
    have h1 := valueB_rng _ true a hr ha
    have h2 := valueB_rng _ false a hr ha
    rcases edges_val _ _ _ _ e he with q | q
    · rw [q]; exact h1
    · rw [q]; exact h2)
/-- a list that is done by k -/
def DoneK (N : List In) : Prop := ∃ b, Facts N psK.bt psK.ot 0 b ∧ ∀ q (h : q < N.length), (isTest N[q].op = true ∨ N[q].op = 16) → b q < 0
theorem passK_done {L : List In} (hs : SoundList L) : DoneK (passK L) := by
  obtain ⟨hF, hr⟩ := psK_facts hs
  refine ⟨_, hF, fun q h hop => ?_⟩
  have hq : q < L.length := by unfold passK at h; rw [put_len] at h; exact h
  have hat : (passK L)[q] = psK.re L[q] (fact psK L q) := put_at psK L q hq
  by_cases z : 0 ≤ fact psK L q
  · exfalso
    have hat2 : (passK L)[q] = settledB L[q] (fact psK L q) := by
      rw [hat]
      show (if _ then _ else _) = _
      rw [if_pos z]
    rw [hat2] at hop
    unfold settledB at hop
    split at hop
    · rcases hop with hop | hop
      · cases (show isTest 10 = true from hop)
      · cases (show (10 : Int) = 16 from hop)
    · next h1 =>
      split at hop
      · rcases hop with hop | hop
        · cases (show isTest 15 = true from hop)
        · cases (show (15 : Int) = 16 from hop)
      · next h2 =>
        rcases hop with hop | hop
        · exact h1 hop
        · exact h2 hop
  · omega
theorem re_op (x : In) (a : Int) : (psK.re x a) = x ∨ (isTest x.op = true ∧ 0 ≤ a ∧ psK.re x a = ⟨10, 0, 0, hop x a⟩) ∨ (x.op = 16 ∧ 0 ≤ a ∧ psK.re x a = ⟨15, 0, 0, a⟩) := by
  show (if 0 ≤ a then settledB x a else x) = x ∨ (_ ∧ _ ∧ (if 0 ≤ a then settledB x a else x) = _) ∨ (_ ∧ _ ∧ (if 0 ≤ a then settledB x a else x) = _)
  by_cases h : 0 ≤ a
  · rw [if_pos h]
    unfold settledB
    by_cases ht : isTest x.op = true
    · rw [if_pos ht]; exact Or.inr (Or.inl ⟨ht, h, rfl⟩)
    · rw [if_neg ht]
      by_cases h16 : x.op = 16
      · rw [if_pos h16]; exact Or.inr (Or.inr ⟨h16, h, rfl⟩)
      · rw [if_neg h16]; exact Or.inl rfl
  · rw [if_neg h]; exact Or.inl rfl
theorem passK_sound {L : List In} (hs : SoundList L) : SoundList (passK L) := by
  obtain ⟨hF, hr⟩ := psK_facts hs
  have hl : (passK L).length = L.length := put_len _ _
  have hin := fun i h => hs.tos_in i h
  have key : ∀ q (h : q < (passK L).length), InRng (passK L)[q] ∧ wrongE (passK L)[q] (((passK L).length - (q + 1) : Nat) : Int) = 0 := by
    intro q h
    have hq : q < L.length := by omega
    have hat : (passK L)[q] = psK.re L[q] (fact psK L q) := put_at psK L q hq
    rw [hat, hl]
    have hx := hs.1.2 q hq
    have hwr := hs.2.2.1 q hq
    have hw := (wrong_iff _ _).1 hwr
    show InRng (if 0 ≤ fact psK L q then settledB L[q] (fact psK L q) else L[q]) ∧ wrongE (if 0 ≤ fact psK L q then settledB L[q] (fact psK L q) else L[q]) _ = 0
    split
    · next h0 =>
      have hra : fact psK L q ≤ 65535 := by rcases hr q with z | z <;> omega
      unfold settledB
      split
      · next ht =>
        have hh := hop_tf L[q] (fact psK L q) ht
        have hw6 := hw.2.2.2.2.2 ht
        have hm := hw.2.2.2.1
        unfold InRng at hx ⊢
        refine ⟨by simp only; omega, (wrong_iff _ _).2 ⟨by simp only; omega, fun _ => by simp only; omega, fun z => by simp only at z; omega, rfl, fun _ => by simp only; omega, fun z => by have z2 := id z; cases (show isTest _ = true from z2)⟩⟩
      · split
        · unfold InRng
          refine ⟨by simp only; omega, (wrong_iff _ _).2 ⟨by simp only; omega, fun _ => by simp only; omega, fun z => by simp only at z; omega, rfl, fun z => by simp only at z; omega, fun z => by have z2 := id z; cases (show isTest _ = true from z2)⟩⟩
        · exact ⟨hx, hwr⟩
    · exact ⟨hx, hwr⟩
  refine ⟨⟨by have := hs.1.1; omega, fun q h => (key q h).1⟩, by have := hs.2.1; omega, fun q h => (key q h).2, fun h => ?_⟩
  have hp := hs.2.1
  have hlast := hs.2.2.2 hp
  have hat : (passK L)[(passK L).length - 1] = psK.re (L[L.length - 1]) (fact psK L (L.length - 1)) := by
    have h1 : (passK L)[L.length - 1]'(by omega) = psK.re (L[L.length - 1]) (fact psK L (L.length - 1)) := put_at psK L (L.length - 1) (by omega)
    rw [← h1]
    congr 1
    omega
  rw [hat]
  rcases re_op L[L.length - 1] (fact psK L (L.length - 1)) with h | ⟨ht, _, h⟩ | ⟨_, _, h⟩
  · rw [h]; exact hlast
  · have := test_ne _ ht; omega
  · rw [h]; exact Or.inl rfl
theorem valueB_step (r : ByteArray) (x : In) (m : Mc) (b : Bool) (a : Int) (ha : 0 ≤ a → m.a = a) (hb : x.op = 11 → b = true → m.a = x.k) : 0 ≤ valueB x b a → (stepM r x m).a = valueB x b a := by
  intro h
  unfold valueB at *
  unfold stepM
  by_cases h2 : x.op = 2
  · rw [if_pos (Or.inl h2), if_neg (by omega), if_pos h2]
  · by_cases h11 : x.op = 11 ∧ b = true
    · rw [if_pos (Or.inr h11), if_neg (by omega), if_neg (by omega), if_neg (by omega), if_neg (by omega)]
      show becomes x m.a = _
      rw [becomes_not x m.a (by omega)]
      exact hb h11.1 h11.2
    · have hn : ¬ (x.op = 2 ∨ (x.op = 11 ∧ b = true)) := by
        rintro (q | q)
        · exact h2 q
        · exact h11 q
      rw [if_neg hn] at h ⊢
      by_cases h3 : x.op = 1 ∨ x.op = 3 ∨ a < 0
      · rw [if_pos h3] at h; omega
      · rw [if_neg h3] at h ⊢
        rw [if_neg (by omega), if_neg (by omega), if_neg (by omega)]
        have := ha (by omega)
        split
        · rw [cellSet_a, this, becomes_not x a (by omega)]
        · show becomes x m.a = _; rw [this]
theorem stepM_big (r : ByteArray) (x : In) (m : Mc) (h : 9 < x.op) : stepM r x m = m := by
  unfold stepM
  rw [if_neg (by omega), if_neg (by omega), if_neg (by omega), if_neg (by omega), becomes_not x m.a (by omega)]
/-- the way that a run takes, and what is known along it -/
theorem way_taken (r : ByteArray) (i : Nat) (x : In) (m : Mc) (a : Int) (ha : 0 ≤ a → m.a = a) (h15 : x.op ≠ 15) (h16 : x.op ≠ 16) :
    ∃ e ∈ edges i x (psK.bt x a) (psK.ot x a), e.1 = i + 1 + (hop x m.a).toNat ∧ (0 ≤ e.2 → (stepM r x m).a = e.2) := by
  by_cases ht : isTest x.op = true
  · have h10 := test_ne _ ht
    have e1 : edges i x (psK.bt x a) (psK.ot x a) = [(i + 1 + x.f.toNat, psK.ot x a), (i + 1 + x.t.toNat, psK.bt x a)] := by unfold edges; rw [if_pos ht]
    have e2 : hop x m.a = if yes x m.a = true then x.t else x.f := by unfold hop; rw [if_neg (by omega), if_pos ht]
    rw [e1, e2]
    by_cases hy : yes x m.a = true
    · rw [if_pos hy]
      refine ⟨_, List.mem_cons_of_mem _ (List.mem_cons_self ..), rfl, fun h => ?_⟩
      refine valueB_step r x m true a ha (fun q _ => ?_) h
      unfold yes at hy
      rw [if_pos q] at hy
      simpa using hy
    · rw [if_neg hy]
      refine ⟨_, List.mem_cons_self .., rfl, fun h => ?_⟩
      exact valueB_step r x m false a ha (fun q z => by cases z) h
  · by_cases h10 : x.op = 10
    · have e1 : edges i x (psK.bt x a) (psK.ot x a) = [(i + 1 + x.k.toNat, psK.ot x a)] := by unfold edges; rw [if_neg ht, if_pos h10]
      have e2 : hop x m.a = x.k := by unfold hop; rw [if_pos h10]
      rw [e1, e2]
      refine ⟨_, List.mem_cons_self .., rfl, fun h => valueB_step r x m false a ha (fun q z => by cases z) h⟩
    · have e1 : edges i x (psK.bt x a) (psK.ot x a) = [(i + 1, psK.ot x a)] := by unfold edges; rw [if_neg ht, if_neg h10, if_neg (by omega)]
      have e2 : hop x m.a = 0 := by unfold hop; rw [if_neg h10, if_neg ht]
      rw [e1, e2]
      refine ⟨_, List.mem_cons_self .., rfl, fun h => valueB_step r x m false a ha (fun q z => by cases z) h⟩
theorem passK_better {L : List In} (hs : SoundList L) : Better1 L (passK L) := by
  obtain ⟨hF, hr⟩ := psK_facts hs
  have hl : (passK L).length = L.length := put_len _ _
  refine ⟨passK_sound hs, by omega, fun r v n e => ⟨n, Nat.le_refl _, ?_⟩⟩
  have key : ∀ n i m v, Ends r (L.drop i) m v n → fact psK L i ≠ -2 → (0 ≤ fact psK L i → m.a = fact psK L i) → Ends r ((passK L).drop i) m v n := by
    intro n
    induction n with
    | zero => intro i m v h; exact absurd (ends_pos h) (by omega)
    | succ n ih =>
      intro i m v h ha hm
      obtain ⟨hi, hc⟩ := ends_at h
      have hi2 : i < (passK L).length := by omega
      have hat : (passK L)[i] = psK.re L[i] (fact psK L i) := put_at psK L i hi
      have hn15 : ∀ (h15 : (passK L)[i].op ≠ 15) (h16 : (passK L)[i].op ≠ 16), fact psK L (i + 1 + (hop (passK L)[i] m.a).toNat) ≠ -2 ∧ (0 ≤ fact psK L (i + 1 + (hop (passK L)[i] m.a).toNat) → (stepM r (passK L)[i] m).a = fact psK L (i + 1 + (hop (passK L)[i] m.a).toNat)) := by
        intro h15 h16
        obtain ⟨e, he, he1, he2⟩ := way_taken r i (passK L)[i] m (fact psK L i) hm h15 h16
        have hl := hF.lead i hi2 e ha he
        rw [he1] at hl
        refine ⟨hl.1, fun hp => ?_⟩
        rcases hl.2 with q | q
        · rw [q] at hp ⊢; exact he2 hp
        · omega
      rcases re_op L[i] (fact psK L i) with hre | ⟨ht, h0, hre⟩ | ⟨h16, h0, hre⟩
      · rw [hre] at hat
        rcases hc with ⟨h1, h2, h3⟩ | ⟨h1, h2, h3⟩ | ⟨h15, h16, n', hn, he⟩
        · have := @ends_ret r _ _ m hi2 (by rw [hat]; exact h1)
          rw [hat, ← h2] at this
          rw [h3]; exact this
        · have := @ends_ans r _ _ m hi2 (by rw [hat]; exact h1)
          rw [h2, h3]; exact this
        · have : n' = n := by omega
          subst this
          have hnx := hn15 (by rw [hat]; exact h15) (by rw [hat]; exact h16)
          rw [hat] at hnx
          refine ends_step hi2 (by rw [hat]; exact h15) (by rw [hat]; exact h16) ?_
          rw [hat]
          exact ih _ _ v he hnx.1 hnx.2
      · have hop2 := test_ne _ ht
        rw [hre] at hat
        rcases hc with ⟨h1, h2, h3⟩ | ⟨h1, h2, h3⟩ | ⟨h15, h16, n', hn, he⟩
        · omega
        · omega
        · have : n' = n := by omega
          subst this
          have ho : (passK L)[i].op = 10 := by rw [hat]
          have hnx := hn15 (by omega) (by omega)
          have hk : hop (passK L)[i] m.a = hop L[i] m.a := by
            rw [hat]; unfold hop; rw [if_pos rfl]; rw [hm h0]
          have hst : stepM r (passK L)[i] m = stepM r L[i] m := by
            rw [stepM_big r _ m (by omega), stepM_big r _ m (by omega)]
          rw [hk, hst] at hnx
          refine ends_step hi2 (by omega) (by omega) ?_
          rw [hk, hst]
          exact ih _ _ v he hnx.1 hnx.2
      · rw [hre] at hat
        rcases hc with ⟨h1, h2, h3⟩ | ⟨h1, h2, h3⟩ | ⟨h15, h16', n', hn, he⟩
        · omega
        · have := @ends_ret r _ _ m hi2 (by rw [hat])
          rw [hat] at this
          rw [h2, h3, hm h0]; exact this
        · omega
  have := key n 0 ⟨0, 0, 0, 0, 0⟩ v (by rw [List.drop_zero]; exact e) (by rw [hF.zero]; decide) (fun _ => by rw [hF.zero])
  rw [List.drop_zero] at this
  exact this
end Go.Proofs.Ytldongbimhngfaa
/- The pass j, as plain functions. -/
namespace Go.Proofs.Ytldongbimhngfaa.Sc
/-- what leads to the place of which s stand from there on -/
def jgo (N : List In) (s : Nat) : List In :=
  if s = 0 ∨ N.length ≤ s then N
  else match N[N.length - s]? with
    | none => N
    | some y => if y.op = 15 ∨ y.op = 16 then y :: N else ⟨10, 0, 0, ((N.length - s : Nat) : Int) + (if y.op = 10 then 1 + y.k else 0)⟩ :: N
def jadd (x : In) (N : List In) (P : List Nat) : List In :=
  if x.op = 10 then jgo N (P.getD x.k.toNat 0)
  else if isTest x.op = true then
    (if P.getD x.t.toNat 0 = P.getD x.f.toNat 0 then jgo N (P.getD x.t.toNat 0)
     else { x with t := ((N.length - P.getD x.t.toNat 0 : Nat) : Int), f := ((N.length - P.getD x.f.toNat 0 : Nat) : Int) } :: N)
  else x :: N
/-- what is built of the instructions, and how many stand from each of their places on -/
def jst : List In → List In × List Nat
  | [] => ([], [])
  | x :: r => (jadd x (jst r).1 (jst r).2, (jadd x (jst r).1 (jst r).2).length :: (jst r).2)
def passJ (L : List In) : List In := (jst L).1
/-- sound, but for the length -/
def GoodL : List In → Prop
  | [] => False
  | [x] => InRng x ∧ wrongE x 0 = 0 ∧ (x.op = 15 ∨ x.op = 16)
  | x :: y :: r => InRng x ∧ wrongE x ((r.length + 1 : Nat) : Int) = 0 ∧ GoodL (y :: r)
def TidyS : List In → Prop
  | [] => True
  | x :: r => (isTest x.op = true → x.t ≠ x.f) ∧ (x.op = 10 → x.k ≠ 0 ∧ ∀ y, r[x.k.toNat]? = some y → y.op ≠ 10 ∧ y.op ≠ 15 ∧ y.op ≠ 16) ∧ TidyS r
end Go.Proofs.Ytldongbimhngfaa.Sc
namespace Go.Proofs.Ytldongbimhngfaa
open Go.RowKit Sc
set_option linter.unusedVariables false
set_option linter.unusedSimpArgs false

theorem good_pos {l : List In} (h : GoodL l) : 0 < l.length := by
  cases l with
  | nil => exact absurd h (fun h => h)
  | cons x r => simp
theorem good_cons {x : In} {r : List In} (hx : InRng x) (hw : wrongE x ((r.length : Nat) : Int) = 0) (hr : GoodL r) : GoodL (x :: r) := by
  cases r with
  | nil => exact absurd hr (fun h => h)
  | cons y r => exact ⟨hx, by simpa using hw, hr⟩
theorem good_head {x : In} {r : List In} (h : GoodL (x :: r)) : InRng x ∧ wrongE x ((r.length : Nat) : Int) = 0 := by
  cases r with
  | nil => exact ⟨h.1, h.2.1⟩
  | cons y r => exact ⟨h.1, by have := h.2.1; simpa using this⟩
theorem good_tail {x : In} {r : List In} (h : GoodL (x :: r)) (hr : r ≠ []) : GoodL r := by
  cases r with
  | nil => exact absurd rfl hr
  | cons y r => exact h.2.2
theorem good_drop : ∀ (j : Nat) {l : List In}, GoodL l → j < l.length → GoodL (l.drop j) := by
  intro j
  induction j with
  | zero => intro l h _; simpa using h
  | succ j ih =>
    intro l h hj
    cases l with
    | nil => simp at hj
    | cons x r =>
      simp only [List.drop_succ_cons]
      have hr : r ≠ [] := by intro q; subst q; simp at hj
      exact ih (good_tail h hr) (by simpa using hj)
theorem good_last : ∀ {l : List In}, GoodL l → ∀ h : 0 < l.length, (l[l.length - 1]'(by omega)).op = 15 ∨ (l[l.length - 1]'(by omega)).op = 16 := by
  intro l
  induction l with
  | nil => intro h; exact absurd h (fun h => h)
  | cons x r ih =>
    intro h hp
    cases r with
    | nil => exact h.2.2
    | cons y r =>
      have := ih h.2.2 (by simp)
      simpa using this
theorem good_sound {l : List In} (h : GoodL l) (hl : l.length ≤ 1024) : SoundList l := by
  have key : ∀ i (hi : i < l.length), InRng l[i] ∧ wrongE l[i] ((l.length - (i + 1) : Nat) : Int) = 0 := by
    intro i hi
    have hd := good_drop i h hi
    rw [List.drop_eq_getElem_cons hi] at hd
    have := good_head hd
    rw [List.length_drop] at this
    exact this
  exact ⟨⟨hl, fun i hi => (key i hi).1⟩, good_pos h, fun i hi => (key i hi).2, fun hp => good_last h hp⟩
theorem sound_good_drop {l : List In} (h : SoundList l) : ∀ d i, i < l.length → l.length - i ≤ d → GoodL (l.drop i) := by
  intro d
  induction d with
  | zero => intro i hi hd; omega
  | succ d ih =>
    intro i hi hd
    have hx := h.1.2 i hi
    have hw := h.2.2.1 i hi
    by_cases q : i + 1 < l.length
    · have := ih (i + 1) q (by omega)
      rw [List.drop_eq_getElem_cons hi]
      exact good_cons hx (by rw [List.length_drop]; exact hw) this
    · have e : i = l.length - 1 := by omega
      have hl := h.2.2.2 h.2.1
      rw [List.drop_eq_getElem_cons hi, List.drop_eq_nil_of_le (by omega)]
      have e0 : ((l.length - (i + 1) : Nat) : Int) = 0 := by omega
      rw [e0] at hw
      refine ⟨hx, hw, ?_⟩
      have e2 : l[i] = l[l.length - 1]'(by omega) := by congr 1
      rw [e2]; exact hl
theorem sound_good {l : List In} (h : SoundList l) : GoodL l := by
  have := sound_good_drop h l.length 0 h.2.1 (by omega)
  simpa using this
theorem tidyS_drop : ∀ (j : Nat) {l : List In}, TidyS l → TidyS (l.drop j) := by
  intro j
  induction j with
  | zero => intro l h; simpa using h
  | succ j ih =>
    intro l h
    cases l with
    | nil => exact trivial
    | cons x r => simp only [List.drop_succ_cons]; exact ih h.2.2
theorem drop_cons_suf (z : In) (N : List In) (s : Nat) (h : s ≤ N.length) : (z :: N).drop ((z :: N).length - s) = N.drop (N.length - s) := by
  have : (z :: N).length - s = (N.length - s) + 1 := by simp only [List.length_cons]; omega
  rw [this, List.drop_succ_cons]
theorem isTest10 : isTest 10 = false := rfl
/-- what leads to a place does so -/
theorem jgo_ok {N : List In} {s : Nat} (hG : GoodL N) (hT : TidyS N) (hl : N.length ≤ 1024) (h1 : 1 ≤ s) (h2 : s ≤ N.length) :
    GoodL (jgo N s) ∧ TidyS (jgo N s) ∧ (jgo N s = N ∨ ∃ z, jgo N s = z :: N) ∧ ∀ r m v n, Ends r (N.drop (N.length - s)) m v n → ∃ n', n' ≤ n + 1 ∧ Ends r (jgo N s) m v n' := by
  unfold jgo
  by_cases hs : N.length ≤ s
  · rw [if_pos (Or.inr hs)]
    have : N.length - s = 0 := by omega
    rw [this, List.drop_zero]
    exact ⟨hG, hT, Or.inl rfl, fun r m v n e => ⟨n, by omega, e⟩⟩
  · rw [if_neg (by omega)]
    have hi : N.length - s < N.length := by omega
    rw [List.getElem?_eq_getElem hi]
    simp only
    have hd := good_drop (N.length - s) hG hi
    have htd := tidyS_drop (N.length - s) hT
    have hdc := List.drop_eq_getElem_cons hi
    rw [hdc] at hd htd
    have hhd := good_head hd
    rw [List.length_drop] at hhd
    obtain ⟨hy, hw⟩ := hhd
    have hget : ∀ j, N[N.length - s + 1 + j]? = (N.drop (N.length - s + 1))[j]? := by intro j; rw [List.getElem?_drop]
    have hget0 : N[N.length - s]? = some (N[N.length - s]) := List.getElem?_eq_getElem hi
    rw [hdc]
    generalize N[N.length - s] = y at *
    have hwi := (wrong_iff _ _).1 hw
    by_cases he : y.op = 15 ∨ y.op = 16
    · rw [if_pos he]
      have hnt : isTest y.op = false := by rcases he with q | q <;> rw [q] <;> rfl
      refine ⟨good_cons hy ((wrong_iff _ _).2 ⟨hwi.1, hwi.2.1, hwi.2.2.1, hwi.2.2.2.1, fun q => by omega, fun q => by rw [hnt] at q; exact absurd q (by decide)⟩) hG, ⟨fun q => by rw [hnt] at q; exact absurd q (by decide), fun q => by omega, hT⟩, Or.inr ⟨y, rfl⟩, fun r m v n e => ?_⟩
      rcases ends_inv e with ⟨a1, a2, a3⟩ | ⟨a1, a2, a3⟩ | ⟨a1, a2, _⟩
      · refine ⟨1, by omega, ?_⟩
        rw [a2]; exact Ends.ret y N m a1
      · refine ⟨1, by omega, ?_⟩
        rw [a2]; exact Ends.ans y N m a1
      · omega
    · rw [if_neg he]
      have hmay : ∀ k : Int, mayB ⟨10, 0, 0, k⟩ = true := fun k => rfl
      by_cases h10 : y.op = 10
      · rw [if_pos h10]
        have hyk := hwi.2.2.2.2.1 h10
        unfold InRng at hy
        have hK : ((N.length - s : Nat) : Int) + (1 + y.k) = ((N.length - s + 1 + y.k.toNat : Nat) : Int) := by omega
        rw [hK]
        have hKlt : N.length - s + 1 + y.k.toNat < N.length := by omega
        refine ⟨good_cons (by unfold InRng; simp only; omega) ((wrong_iff _ _).2 ⟨by simp only; omega, fun _ => by simp only; omega, fun q => by simp only at q; omega, hmay _, fun _ => by simp only; omega, fun q => by simp only at q; rw [isTest10] at q; exact absurd q (by decide)⟩) hG, ⟨fun q => by simp only at q; rw [isTest10] at q; exact absurd q (by decide), fun _ => ⟨by simp only; omega, fun u hu => ?_⟩, hT⟩, Or.inr ⟨_, rfl⟩, fun r m v n e => ?_⟩
        · simp only [Int.toNat_natCast] at hu
          rw [hget] at hu
          exact (htd.2.1 h10).2 u hu
        · rcases ends_inv e with ⟨a1, a2, a3⟩ | ⟨a1, a2, a3⟩ | ⟨a1, a2, n', a3, a4⟩
          · omega
          · omega
          · refine ⟨n' + 1, by omega, Ends.step _ _ _ _ _ (by simp only; omega) (by simp only; omega) ?_⟩
            have e1 : hop y m.a = y.k := by unfold hop; rw [if_pos h10]
            have e2 : hop ⟨10, 0, 0, ((N.length - s + 1 + y.k.toNat : Nat) : Int)⟩ m.a = ((N.length - s + 1 + y.k.toNat : Nat) : Int) := rfl
            rw [e2, Int.toNat_natCast, stepM_big r _ m (by simp only; omega)]
            rw [e1, stepM_big r y m (by omega), List.drop_drop] at a4
            exact a4
      · rw [if_neg h10]
        have hK : ((N.length - s : Nat) : Int) + 0 = ((N.length - s : Nat) : Int) := by omega
        rw [hK]
        refine ⟨good_cons (by unfold InRng; simp only; omega) ((wrong_iff _ _).2 ⟨by simp only; omega, fun _ => by simp only; omega, fun q => by simp only at q; omega, hmay _, fun _ => by simp only; omega, fun q => by simp only at q; rw [isTest10] at q; exact absurd q (by decide)⟩) hG, ⟨fun q => by simp only at q; rw [isTest10] at q; exact absurd q (by decide), fun _ => ⟨by simp only; omega, fun u hu => ?_⟩, hT⟩, Or.inr ⟨_, rfl⟩, fun r m v n e => ?_⟩
        · simp only [Int.toNat_natCast] at hu
          rw [hget0] at hu
          cases hu
          exact ⟨h10, fun q => he (Or.inl q), fun q => he (Or.inr q)⟩
        · refine ⟨n + 1, by omega, Ends.step _ _ _ _ _ (by simp only; omega) (by simp only; omega) ?_⟩
          have e2 : hop ⟨10, 0, 0, ((N.length - s : Nat) : Int)⟩ m.a = ((N.length - s : Nat) : Int) := rfl
          rw [e2, Int.toNat_natCast, stepM_big r _ m (by simp only; omega), hdc]
          exact e
/-- what is built stands in the place of what was -/
structure JOk (l N : List In) (P : List Nat) : Prop where
  plen : P.length = l.length
  good : GoodL N
  tidy : TidyS N
  len : N.length ≤ l.length
  zero : P.getD 0 0 = N.length
  rng : ∀ q, q < l.length → 1 ≤ P.getD q 0 ∧ P.getD q 0 ≤ N.length ∧ N.length ≤ P.getD q 0 + q
  sim : ∀ q, q < l.length → ∀ r m v n, Ends r (l.drop q) m v n → ∃ n', n' ≤ n ∧ Ends r (N.drop (N.length - P.getD q 0)) m v n'
theorem JOk.cons {x : In} {r N : List In} {P : List Nat} (h : JOk r N P) (N' : List In) (hg : GoodL N') (ht : TidyS N') (hc : N' = N ∨ ∃ z, N' = z :: N)
    (hs : ∀ rc m v n, Ends rc (x :: r) m v n → ∃ n', n' ≤ n ∧ Ends rc N' m v n') : JOk (x :: r) N' (N'.length :: P) := by
  have hle : N.length ≤ N'.length ∧ N'.length ≤ N.length + 1 := by rcases hc with rfl | ⟨z, rfl⟩ <;> simp
  have hlen := h.len
  have hpos := good_pos hg
  have hsuf : ∀ s, s ≤ N.length → N'.drop (N'.length - s) = N.drop (N.length - s) := by
    intro s hsn
    rcases hc with rfl | ⟨z, rfl⟩
    · rfl
    · exact drop_cons_suf z N s hsn
  refine ⟨by simp [h.plen], hg, ht, by simp only [List.length_cons]; omega, rfl, fun q hq => ?_, fun q hq rc m v n e => ?_⟩
  · cases q with
    | zero => show 1 ≤ N'.length ∧ N'.length ≤ N'.length ∧ N'.length ≤ N'.length + 0; omega
    | succ q =>
      have := h.rng q (by simpa using hq)
      simp only [List.getD_cons_succ]
      omega
  · cases q with
    | zero =>
      show ∃ n', n' ≤ n ∧ Ends rc (N'.drop (N'.length - N'.length)) m v n'
      rw [Nat.sub_self, List.drop_zero]
      exact hs rc m v n e
    | succ q =>
      have hq' : q < r.length := by simpa using hq
      simp only [List.getD_cons_succ]
      rw [hsuf _ (h.rng q hq').2.1]
      simp only [List.drop_succ_cons] at e
      exact h.sim q hq' rc m v n e
theorem jst_ok : ∀ (l : List In), GoodL l → l.length ≤ 1024 → JOk l (jst l).1 (jst l).2 := by
  intro l
  induction l with
  | nil => intro h; exact absurd h (fun h => h)
  | cons x r ih =>
    intro h hl
    have hh := good_head h
    have hw := (wrong_iff _ _).1 hh.2
    have hx := hh.1
    simp only [List.length_cons] at hl
    by_cases hr : r = []
    · subst hr
      obtain ⟨a1, a2, a3⟩ := h
      have hnt : isTest x.op = false := by rcases a3 with q | q <;> rw [q] <;> rfl
      have e1 : jst [x] = ([x], [1]) := by
        simp only [jst, jadd]
        rw [if_neg (by omega), if_neg (by rw [hnt]; decide)]
        rfl
      rw [e1]
      refine ⟨rfl, ⟨a1, a2, a3⟩, ⟨fun q => by rw [hnt] at q; exact absurd q (by decide), fun q => by omega, trivial⟩, by simp, rfl, fun q hq => ?_, fun q hq rc m v n e => ?_⟩
      · have : q = 0 := by simp at hq; omega
        subst this; simp
      · have : q = 0 := by simp at hq; omega
        subst this
        exact ⟨n, Nat.le_refl _, by simpa using e⟩
    · have hG := good_tail h hr
      have J := ih hG (by omega)
      have hrp : 0 < r.length := good_pos hG
      show JOk (x :: r) (jadd x (jst r).1 (jst r).2) ((jadd x (jst r).1 (jst r).2).length :: (jst r).2)
      generalize (jst r).1 = N at *
      generalize (jst r).2 = P at *
      have hNl := J.len
      unfold InRng at hx
      by_cases h10 : x.op = 10
      · have hk := hw.2.2.2.2.1 h10
        have hk2 : x.k.toNat < r.length := by omega
        have hrg := J.rng _ hk2
        have hj := jgo_ok J.good J.tidy (by omega) hrg.1 hrg.2.1
        have e1 : jadd x N P = jgo N (P.getD x.k.toNat 0) := by unfold jadd; rw [if_pos h10]
        rw [e1]
        refine J.cons _ hj.1 hj.2.1 hj.2.2.1 fun rc m v n e => ?_
        rcases ends_inv e with ⟨a1, a2, a3⟩ | ⟨a1, a2, a3⟩ | ⟨a1, a2, n', a3, a4⟩
        · omega
        · omega
        · have e2 : hop x m.a = x.k := by unfold hop; rw [if_pos h10]
          rw [e2, stepM_big rc x m (by omega)] at a4
          obtain ⟨n1, b1, b2⟩ := J.sim _ hk2 rc m v n' a4
          obtain ⟨n2, c1, c2⟩ := hj.2.2.2 rc m v n1 b2
          exact ⟨n2, by omega, c2⟩
      · by_cases ht : isTest x.op = true
        · have hk := hw.2.2.2.2.2 ht
          have htr := test_ne _ ht
          have ht2 : x.t.toNat < r.length := by omega
          have hf2 : x.f.toNat < r.length := by omega
          have hrt := J.rng _ ht2
          have hrf := J.rng _ hf2
          have hmay := hw.2.2.2.1
          have h15 : ¬ (15 < x.t ∨ 15 < x.f) := by
            intro q; unfold mayB at hmay; rw [if_pos q] at hmay; cases hmay
          by_cases heq : P.getD x.t.toNat 0 = P.getD x.f.toNat 0
          · have e1 : jadd x N P = jgo N (P.getD x.t.toNat 0) := by unfold jadd; rw [if_neg h10, if_pos ht, if_pos heq]
            have hj := jgo_ok J.good J.tidy (by omega) hrt.1 hrt.2.1
            rw [e1]
            refine J.cons _ hj.1 hj.2.1 hj.2.2.1 fun rc m v n e => ?_
            rcases ends_inv e with ⟨a1, a2, a3⟩ | ⟨a1, a2, a3⟩ | ⟨a1, a2, n', a3, a4⟩
            · omega
            · omega
            · rw [stepM_big rc x m (by omega)] at a4
              have hz : ∃ q, q < r.length ∧ (hop x m.a).toNat = q ∧ P.getD q 0 = P.getD x.t.toNat 0 := by
                rcases hop_tf x m.a ht with q | q <;> rw [q]
                · exact ⟨_, ht2, rfl, rfl⟩
                · exact ⟨_, hf2, rfl, heq.symm⟩
              obtain ⟨q, q1, q2, q3⟩ := hz
              rw [q2] at a4
              obtain ⟨n1, b1, b2⟩ := J.sim q q1 rc m v n' a4
              rw [q3] at b2
              obtain ⟨n2, c1, c2⟩ := hj.2.2.2 rc m v n1 b2
              exact ⟨n2, by omega, c2⟩
          · have e1 : jadd x N P = ⟨x.op, ((N.length - P.getD x.t.toNat 0 : Nat) : Int), ((N.length - P.getD x.f.toNat 0 : Nat) : Int), x.k⟩ :: N := by unfold jadd; rw [if_neg h10, if_pos ht, if_neg heq]
            rw [e1]
            refine J.cons _ (good_cons (by unfold InRng; simp only; omega) ((wrong_iff _ _).2 ⟨hw.1, fun q => by simp only at q; rw [ht] at q; exact absurd q (by decide), fun q => by simp only at q; omega, ?_, fun q => by simp only at q; omega, fun _ => by simp only; omega⟩) J.good) ⟨fun _ => by simp only; omega, fun q => by simp only at q; omega, J.tidy⟩ (Or.inr ⟨_, rfl⟩) fun rc m v n e => ?_
            · unfold mayB
              simp only
              rw [if_neg (by omega), if_neg (by omega), if_neg (by omega), if_neg (by omega), if_neg (by omega)]
            · rcases ends_inv e with ⟨a1, a2, a3⟩ | ⟨a1, a2, a3⟩ | ⟨a1, a2, n', a3, a4⟩
              · omega
              · omega
              · rw [stepM_big rc x m (by omega)] at a4
                have e3 : hop x m.a = if yes x m.a = true then x.t else x.f := by unfold hop; rw [if_neg h10, if_pos ht]
                have e4 : hop ⟨x.op, ((N.length - P.getD x.t.toNat 0 : Nat) : Int), ((N.length - P.getD x.f.toNat 0 : Nat) : Int), x.k⟩ m.a = if yes x m.a = true then ((N.length - P.getD x.t.toNat 0 : Nat) : Int) else ((N.length - P.getD x.f.toNat 0 : Nat) : Int) := by
                  unfold hop; simp only; rw [if_neg h10, if_pos ht]; rfl
                by_cases hy : yes x m.a = true
                · rw [e3, if_pos hy] at a4
                  obtain ⟨n1, b1, b2⟩ := J.sim _ ht2 rc m v n' a4
                  refine ⟨n1 + 1, by omega, Ends.step _ _ _ _ _ a1 a2 ?_⟩
                  rw [e4, if_pos hy, Int.toNat_natCast, stepM_big rc _ m (by simp only; omega)]
                  exact b2
                · rw [e3, if_neg hy] at a4
                  obtain ⟨n1, b1, b2⟩ := J.sim _ hf2 rc m v n' a4
                  refine ⟨n1 + 1, by omega, Ends.step _ _ _ _ _ a1 a2 ?_⟩
                  rw [e4, if_neg hy, Int.toNat_natCast, stepM_big rc _ m (by simp only; omega)]
                  exact b2
        · have hnt : isTest x.op = false := by simpa using ht
          have e1 : jadd x N P = x :: N := by unfold jadd; rw [if_neg h10, if_neg ht]
          rw [e1]
          refine J.cons _ (good_cons hh.1 ((wrong_iff _ _).2 ⟨hw.1, hw.2.1, hw.2.2.1, hw.2.2.2.1, fun q => absurd q h10, fun q => absurd q ht⟩) J.good) ⟨fun q => absurd q ht, fun q => absurd q h10, J.tidy⟩ (Or.inr ⟨_, rfl⟩) fun rc m v n e => ?_
          rcases ends_inv e with ⟨a1, a2, a3⟩ | ⟨a1, a2, a3⟩ | ⟨a1, a2, n', a3, a4⟩
          · refine ⟨1, by omega, ?_⟩
            rw [a2]; exact Ends.ret x N m a1
          · refine ⟨1, by omega, ?_⟩
            rw [a2]; exact Ends.ans x N m a1
          · have e2 : hop x m.a = 0 := by unfold hop; rw [if_neg h10, if_neg ht]
            rw [e2] at a4
            obtain ⟨n1, b1, b2⟩ := J.sim 0 hrp rc _ v n' (by simpa using a4)
            rw [J.zero, Nat.sub_self, List.drop_zero] at b2
            refine ⟨n1 + 1, by omega, Ends.step _ _ _ _ _ a1 a2 ?_⟩
            rw [e2]
            simpa using b2
theorem passJ_better {L : List In} (hs : SoundList L) : Better1 L (passJ L) := by
  have J := jst_ok L (sound_good hs) hs.1.1
  have hl := J.len
  refine ⟨good_sound J.good (by have := hs.1.1; unfold passJ; omega), J.len, fun r v n e => ?_⟩
  obtain ⟨n', h1, h2⟩ := J.sim 0 hs.2.1 r _ v n (by simpa using e)
  rw [J.zero, Nat.sub_self, List.drop_zero] at h2
  exact ⟨n', h1, h2⟩
theorem passJ_tidy {L : List In} (hs : SoundList L) : TidyS (passJ L) := (jst_ok L (sound_good hs) hs.1.1).tidy
end Go.Proofs.Ytldongbimhngfaa
/- Passes, one behind the other. -/
namespace Go.Proofs.Ytldongbimhngfaa.Sc
open Go.Proofs.Ytldongbimhngfaa.Sv (byteAt)
def passOf (b : Int) (L : List In) : List In := if b = 100 then passD L else if b = 106 then passJ L else if b = 108 then passL L else if b = 107 then passK L else L
/-- the first n passes -/
def impN (p : ByteArray) (L : List In) : Nat → List In
  | 0 => L
  | n + 1 => passOf (byteAt p n) (impN p L n)
def impL (p : ByteArray) (L : List In) : List In := impN p L p.size
/-- what Improve answers -/
def impErr (c p : ByteArray) : Int := if (sound c).1 = 0 then (if 12 < p.size then 10 else 0) else (sound c).1
def impOut (c p : ByteArray) : ByteArray := if impErr c p = 0 then bytesOf (impL p (decL c)) else ByteArray.empty
end Go.Proofs.Ytldongbimhngfaa.Sc
namespace Go.Proofs.Ytldongbimhngfaa
open Go.RowKit Sc
set_option linter.unusedVariables false
set_option linter.unusedSimpArgs false

theorem passOf_better (b : Int) {L : List In} (hs : SoundList L) : Better1 L (passOf b L) := by
  unfold passOf
  split
  · exact (passD_good hs).1
  · split
    · exact passJ_better hs
    · split
      · exact passL_better hs
      · split
        · exact passK_better hs
        · exact Better1.refl hs
theorem impN_better (p : ByteArray) {L : List In} (hs : SoundList L) : ∀ n, Better1 L (impN p L n) := by
  intro n
  induction n with
  | zero => exact Better1.refl hs
  | succ n ih => exact ih.trans (passOf_better _ ih.sound)
theorem sound_list (c : ByteArray) (h : (Sc.sound c).1 = 0) : SoundList (decL c) := by
  obtain ⟨hE, hw⟩ := sound_steps c h
  unfold Sc.sound at h
  rw [if_pos hE] at h
  unfold Sc.soundL at h
  split at h
  · cases h
  · next h0 =>
    have hp : 0 < (decL c).length := by omega
    split at h
    · split at h
      · next hl =>
        rw [lastOp_get _ hp] at hl
        exact ⟨⟨decL_le c, fun i hi => decL_rng c i hi⟩, hp, hw, fun _ => hl⟩
      · cases h
    · next q => exact absurd h q
/-- what is decoded is encoded again -/
theorem bytes_decL (c : ByteArray) (h : Sc.decE c = 0) : bytesOf (decL c) = c := by
  obtain ⟨h1, h2, h3⟩ | ⟨h1, _⟩ := decE_cases c
  · have hl := decL_len h
    have hs := bytesOf_size (decL c)
    have hsz : (bytesOf (decL c)).size = c.size := by omega
    apply ByteArray.ext
    apply Array.ext
    · exact hsz
    · intro i hi1 hi2
      have hi : i < c.size := hi2
      have e : 5 * (i / 5) + i % 5 = i := by omega
      have hlt : i / 5 < (decL c).length := by omega
      have hb := bytesOf_at (decL c) (i / 5) (i % 5) hlt (by omega)
      rw [e] at hb
      have hg : (decL c)[i / 5] = inAt c (i / 5) := by
        have : decL c = ins c (c.size / 5) := by unfold decL; rw [if_pos h]
        simp only [this]
        exact ins_get c _ _ _
      have hv : Sv.byteAt (bytesOf (decL c)) i = Sv.byteAt c i := by
        rw [hb]
        have b0 := byte_rng (c := c) (i := 5 * (i / 5)) (by omega)
        have b1 := byte_rng (c := c) (i := 5 * (i / 5) + 1) (by omega)
        have b2 := byte_rng (c := c) (i := 5 * (i / 5) + 2) (by omega)
        have b3 := byte_rng (c := c) (i := 5 * (i / 5) + 3) (by omega)
        have b4 := byte_rng (c := c) (i := 5 * (i / 5) + 4) (by omega)
        have key : ∀ j (hj : j < 5), (((Sc.inB (inAt c (i / 5)))[j]'(by rw [inB_len]; exact hj)).toNat : Int) = Sv.byteAt c (5 * (i / 5) + j) := by
          intro j hj
          match j, hj with
          | 0, _ => show ((Sv.byteAt c (5 * (i / 5))).toNat.toUInt8.toNat : Int) = Sv.byteAt c (5 * (i / 5) + 0); rw [u8n _ (by omega), Nat.add_zero]; omega
          | 1, _ => show ((Sv.byteAt c (5 * (i / 5) + 1)).toNat.toUInt8.toNat : Int) = _; rw [u8n _ (by omega)]; omega
          | 2, _ => show ((Sv.byteAt c (5 * (i / 5) + 2)).toNat.toUInt8.toNat : Int) = _; rw [u8n _ (by omega)]; omega
          | 3, _ => show (((Sv.byteAt c (5 * (i / 5) + 3) + 256 * Sv.byteAt c (5 * (i / 5) + 4)).toNat % 256).toUInt8.toNat : Int) = _; rw [u8n _ (by omega)]; omega
          | 4, _ => show (((Sv.byteAt c (5 * (i / 5) + 3) + 256 * Sv.byteAt c (5 * (i / 5) + 4)).toNat / 256).toUInt8.toNat : Int) = _; rw [u8n _ (by omega)]; omega
        have := key (i % 5) (by omega)
        rw [e] at this
        simp only [hg]
        exact this
      rw [byteAt_in (by omega : i < (bytesOf (decL c)).size), byteAt_in hi] at hv
      have h5 : ((bytesOf (decL c))[i]'(by omega)).toNat = (c[i]'hi).toNat := by omega
      exact UInt8.toNat_inj.1 h5
  · exact absurd h h1
/-- what Improve answers, where it does -/
theorem impOut_sound (c p : ByteArray) (h : impErr c p = 0) : (Sc.sound c).1 = 0 ∧ p.size ≤ 12 ∧ SoundList (decL c) ∧ Better1 (decL c) (impL p (decL c)) ∧ impOut c p = bytesOf (impL p (decL c)) ∧ Sc.sound (impOut c p) = (0, 0) ∧ decL (impOut c p) = impL p (decL c) := by
  have hE := h
  unfold impErr at h
  split at h
  · next hs =>
    split at h
    · cases h
    · next hp =>
      have hl := sound_list c hs
      have hb := impN_better p hl p.size
      have ho : impOut c p = bytesOf (impL p (decL c)) := by unfold impOut; rw [if_pos hE]
      refine ⟨hs, by omega, hl, hb, ho, ?_, ?_⟩
      · rw [ho]; exact hb.sound.sound
      · rw [ho]; exact hb.sound.1.decL
  · next q => exact absurd h q
end Go.Proofs.Ytldongbimhngfaa
