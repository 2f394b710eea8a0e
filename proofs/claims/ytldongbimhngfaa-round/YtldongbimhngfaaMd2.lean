/- What is asked of an instruction: the program's walks. -/
import Derived.Test.YtldongbimhngfaaMc1
namespace Go.Proofs.Ytldongbimhngfaa
open Go.RowKit
set_option linter.unusedVariables false
set_option linter.unusedSimpArgs false

theorem isTest_iff (op : Int) : Sc.isTest op = decide (11 ≤ op ∧ op ≤ 14) := by
  unfold Sc.isTest
  by_cases h : 11 ≤ op ∧ op ≤ 14
  · have : op = 11 ∨ op = 12 ∨ op = 13 ∨ op = 14 := by omega
    rcases this with rfl | rfl | rfl | rfl <;> rfl
  · have h1 : op ≠ 11 := by omega
    have h2 : op ≠ 12 := by omega
    have h3 : op ≠ 13 := by omega
    have h4 : op ≠ 14 := by omega
    have e : decide (11 ≤ op ∧ op ≤ 14) = false := by simp only [decide_eq_false_iff_not]; exact h
    rw [e]
    simp only [Bool.or_eq_false_iff, beq_eq_false_iff_ne]
    exact ⟨⟨⟨h1, h2⟩, h3⟩, h4⟩

set_option maxHeartbeats 1000000 in
theorem mIsTest_any (w : World) (op : Int) :
    Calls Try.prog 93 #[.int .i64 op] w fun e w' => e = .returned (.bool (Sc.isTest op)) ∧ w' = w := by
  have hv := hid (isTest_iff op)
  by_cases h1 : 11 ≤ op
  · by_cases h2 : op ≤ 14
    · have hv' : Hid (Sc.isTest op = true) := by unfold Hid; rw [hv.out]; simp [h1, h2]
      clear hv
      go_enter Try.func93, Try.ntmps93
      go_wp2
      go_ret
      rw [hv'.out]
      exact ⟨by simp [h1, h2], rfl⟩
    · have hv' : Hid (Sc.isTest op = false) := by unfold Hid; rw [hv.out]; simp [h1, h2]
      clear hv
      go_enter Try.func93, Try.ntmps93
      go_wp2
      go_ret
      rw [hv'.out]
      exact ⟨by simp [h1, h2], rfl⟩
  · have hv' : Hid (Sc.isTest op = false) := by unfold Hid; rw [hv.out]; simp [h1]
    clear hv
    go_enter Try.func93, Try.ntmps93
    go_wp2
    go_ret
    rw [hv'.out]
    exact ⟨by simp [h1], rfl⟩

set_option maxHeartbeats 1000000 in
theorem mIsEnd_any (w : World) (op : Int) :
    Calls Try.prog 63 #[.int .i64 op] w fun e w' => e = .returned (.bool (decide (op = 15 ∨ op = 16))) ∧ w' = w := by
  by_cases h1 : op = 15
  · subst h1
    go_enter Try.func63, Try.ntmps63
    go_wp2
    go_ret
    exact ⟨by simp, rfl⟩
  · have e1 : (op == 15) = false := by simp [h1]
    by_cases h2 : op = 16
    · subst h2
      clear h1 e1
      go_enter Try.func63, Try.ntmps63
      go_wp2
      go_ret
      exact ⟨by simp, rfl⟩
    · have e2 : (op == 16) = false := by simp [h2]
      have hv : Hid (decide (op = 15 ∨ op = 16) = false) := by simp [Hid, h1, h2]
      clear h1 h2
      go_enter Try.func63, Try.ntmps63
      go_wp2
      go_ret
      rw [hv.out]
      exact ⟨by simp [e1, e2], rfl⟩

set_option maxHeartbeats 1000000 in
theorem mWithin_any (w : World) (a b : Int) :
    Calls Try.prog 64 #[.int .i64 a, .int .i64 b] w fun e w' => e = .returned (.bool (decide (0 ≤ a ∧ a ≤ b))) ∧ w' = w := by
  by_cases h1 : 0 ≤ a
  · by_cases h2 : a ≤ b
    · have hv : Hid (decide (0 ≤ a ∧ a ≤ b) = true) := by simp [Hid, h1, h2]
      have d2 : decide (a ≤ b) = true := by simp [h2]
      go_enter Try.func64, Try.ntmps64
      go_wp2
      go_ret
      try rw [hv.out]
      exact ⟨by simp [h1, h2], rfl⟩
    · have hv : Hid (decide (0 ≤ a ∧ a ≤ b) = false) := by simp [Hid, h2]
      have d2 : decide (a ≤ b) = false := by simp; omega
      go_enter Try.func64, Try.ntmps64
      go_wp2
      go_ret
      try rw [hv.out]
      exact ⟨by simp [h2], rfl⟩
  · have hv : Hid (decide (0 ≤ a ∧ a ≤ b) = false) := by simp [Hid, h1]
    have d1 : decide (0 ≤ a) = false := by simp; omega
    go_enter Try.func64, Try.ntmps64
    go_wp2
    go_ret
    try rw [hv.out]
    exact ⟨by simp [h1], rfl⟩

/-- an instruction whose numbers a code can hold -/
def InRng (x : Sc.In) : Prop := 0 ≤ x.op ∧ x.op ≤ 255 ∧ 0 ≤ x.t ∧ x.t ≤ 255 ∧ 0 ≤ x.f ∧ x.f ≤ 255 ∧ 0 ≤ x.k ∧ x.k ≤ 65535
def unusedB (x : Sc.In) : Bool := if Sc.isTest x.op = true then true else if x.op = 16 ∧ x.k ≠ 0 then false else decide (x.t = 0 ∧ x.f = 0)
def standB (x : Sc.In) : Bool :=
  if x.op = 1 then decide (x.k % 2 = 0 ∧ x.k ≤ 18)
  else if x.op = 3 ∨ x.op = 4 then decide (x.k < 4)
  else if x.op = 8 then decide (x.k ≠ 0)
  else if x.op = 9 then decide (x.k ≤ 15)
  else decide (x.t ≤ 15 ∧ x.f ≤ 15)
def leadsB (x : Sc.In) (left : Int) : Bool := if x.op = 10 then decide (x.k < left) else if Sc.isTest x.op = true then decide (x.t < left ∧ x.f < left) else true

set_option maxRecDepth 100000 in
set_option maxHeartbeats 1000000 in
theorem mUnused_any (w : World) (x : Sc.In) :
    Calls Try.prog 76 #[.agg (inCells x)] w fun e w' => e = .returned (.bool (unusedB x)) ∧ w.grownBy w' none := by
  obtain ⟨op, t, f, k⟩ := x
  simp only [inCells]
  have hT := fun w => mIsTest_any w op
  by_cases h1 : Sc.isTest op = true
  · have hv : Hid (unusedB ⟨op, t, f, k⟩ = true) := by unfold Hid unusedB; rw [if_pos h1]
    rw [h1] at hT
    clear h1
    go_enter Try.func76, Try.ntmps76
    go_wp2_with fail
    refine (hT _).mono ?_
    rintro e w1 ⟨rfl, rfl⟩
    clear hT
    go_wp2_with fail
    go_ret
    rw [hv.out]
    exact ⟨rfl, gb_alloc (gb_refl _ _) _⟩
  · have h1' : Sc.isTest op = false := by simpa using h1
    rw [h1'] at hT
    by_cases h2 : op = 16
    · subst h2
      by_cases h3 : k = 0
      · subst h3
        by_cases h4 : t = 0
        · subst h4
          have hv : Hid (unusedB ⟨16, 0, f, 0⟩ = (f == 0)) := by
            unfold Hid unusedB; rw [if_neg h1, if_neg (by simp)]; simp [BEq.beq]
          clear h1 h1'
          go_enter Try.func76, Try.ntmps76
          go_wp2_with fail
          refine (hT _).mono ?_
          rintro e w1 ⟨rfl, rfl⟩
          clear hT
          go_wp2_with fail
          go_ret
          rw [hv.out]
          exact ⟨rfl, gb_alloc (gb_refl _ _) _⟩
        · have e4 : (t == 0) = false := by simp [h4]
          have hv : Hid (unusedB ⟨16, t, f, 0⟩ = false) := by
            unfold Hid unusedB; rw [if_neg h1, if_neg (by simp)]; simp [h4]
          clear h1 h1' h4
          go_enter Try.func76, Try.ntmps76
          go_wp2_with fail
          refine (hT _).mono ?_
          rintro e w1 ⟨rfl, rfl⟩
          clear hT
          go_wp2_with fail
          go_ret
          rw [hv.out]
          exact ⟨rfl, gb_alloc (gb_refl _ _) _⟩
      · have e3 : (k != 0) = true := by simp [h3]
        have hv : Hid (unusedB ⟨16, t, f, k⟩ = false) := by
          unfold Hid unusedB; rw [if_neg h1, if_pos ⟨rfl, h3⟩]
        clear h1 h1' h3
        go_enter Try.func76, Try.ntmps76
        go_wp2_with fail
        refine (hT _).mono ?_
        rintro e w1 ⟨rfl, rfl⟩
        clear hT
        go_wp2_with fail
        go_ret
        rw [hv.out]
        exact ⟨rfl, gb_alloc (gb_refl _ _) _⟩
    · have e2 : (op == 16) = false := by simp [h2]
      by_cases h4 : t = 0
      · subst h4
        have hv : Hid (unusedB ⟨op, 0, f, k⟩ = (f == 0)) := by
          unfold Hid unusedB; rw [if_neg h1, if_neg (by simp [h2])]; simp [BEq.beq]
        clear h1 h1' h2
        go_enter Try.func76, Try.ntmps76
        go_wp2_with fail
        refine (hT _).mono ?_
        rintro e w1 ⟨rfl, rfl⟩
        clear hT
        go_wp2_with fail
        go_ret
        rw [hv.out]
        exact ⟨rfl, gb_alloc (gb_refl _ _) _⟩
      · have e4 : (t == 0) = false := by simp [h4]
        have hv : Hid (unusedB ⟨op, t, f, k⟩ = false) := by
          unfold Hid unusedB; rw [if_neg h1, if_neg (by simp [h2])]; simp [h4]
        clear h1 h1' h2 h4
        go_enter Try.func76, Try.ntmps76
        go_wp2_with fail
        refine (hT _).mono ?_
        rintro e w1 ⟨rfl, rfl⟩
        clear hT
        go_wp2_with fail
        go_ret
        rw [hv.out]
        exact ⟨rfl, gb_alloc (gb_refl _ _) _⟩

set_option maxRecDepth 100000 in
set_option maxHeartbeats 2000000 in
theorem mStand_any (w : World) (x : Sc.In) (h0 : 0 ≤ x.k) :
    Calls Try.prog 77 #[.agg (inCells x)] w fun e w' => e = .returned (.bool (standB x)) ∧ w.grownBy w' none := by
  obtain ⟨op, t, f, k⟩ := x
  simp only at h0
  simp only [inCells]
  by_cases h1 : op = 1
  · subst h1
    by_cases h2 : k % 2 = 0
    · have hv : Hid (standB ⟨1, t, f, k⟩ = decide (k ≤ 18)) := by unfold Hid standB; rw [if_pos rfl]; simp [h2]
      have e2 : (k % 2 == 0) = true := by simp [h2]
      go_enter Try.func77, Try.ntmps77
      go_wp2_with fail
      go_ret
      try rw [hv.out]
      exact ⟨rfl, gb_alloc (gb_refl _ _) _⟩
    · have hv : Hid (standB ⟨1, t, f, k⟩ = false) := by unfold Hid standB; rw [if_pos rfl]; simp [h2]
      have e2 : (k % 2 == 0) = false := by simp [h2]
      clear h2
      go_enter Try.func77, Try.ntmps77
      go_wp2_with fail
      go_ret
      try rw [hv.out]
      exact ⟨rfl, gb_alloc (gb_refl _ _) _⟩
  by_cases h3 : op = 3
  · subst h3
    have hv : Hid (standB ⟨3, t, f, k⟩ = decide (k < 4)) := by unfold Hid standB; rw [if_neg (by show ¬ ((3 : Int) = 1); decide), if_pos (Or.inl rfl)]
    clear h1
    go_enter Try.func77, Try.ntmps77
    go_wp2_with fail
    go_ret
    try rw [hv.out]
    exact ⟨rfl, gb_alloc (gb_refl _ _) _⟩
  by_cases h4 : op = 4
  · subst h4
    have hv : Hid (standB ⟨4, t, f, k⟩ = decide (k < 4)) := by unfold Hid standB; rw [if_neg (by show ¬ ((4 : Int) = 1); decide), if_pos (Or.inr rfl)]
    clear h1 h3
    go_enter Try.func77, Try.ntmps77
    go_wp2_with fail
    go_ret
    try rw [hv.out]
    exact ⟨rfl, gb_alloc (gb_refl _ _) _⟩
  by_cases h8 : op = 8
  · subst h8
    have hv : Hid (standB ⟨8, t, f, k⟩ = (k != 0)) := by unfold Hid standB; rw [if_neg (by show ¬ ((8 : Int) = 1); decide), if_neg (by show ¬ ((8 : Int) = 3 ∨ (8 : Int) = 4); decide), if_pos rfl]; simp [bne, BEq.beq]
    clear h1 h3 h4
    go_enter Try.func77, Try.ntmps77
    go_wp2_with fail
    go_ret
    try rw [hv.out]
    exact ⟨rfl, gb_alloc (gb_refl _ _) _⟩
  by_cases h9 : op = 9
  · subst h9
    have hv : Hid (standB ⟨9, t, f, k⟩ = decide (k ≤ 15)) := by unfold Hid standB; rw [if_neg (by show ¬ ((9 : Int) = 1); decide), if_neg (by show ¬ ((9 : Int) = 3 ∨ (9 : Int) = 4); decide), if_neg (by show ¬ ((9 : Int) = 8); decide), if_pos rfl]
    clear h1 h3 h4 h8
    go_enter Try.func77, Try.ntmps77
    go_wp2_with fail
    go_ret
    try rw [hv.out]
    exact ⟨rfl, gb_alloc (gb_refl _ _) _⟩
  have e1 : (op == 1) = false := by simp [h1]
  have e3 : (op == 3) = false := by simp [h3]
  have e4 : (op == 4) = false := by simp [h4]
  have e8 : (op == 8) = false := by simp [h8]
  have e9 : (op == 9) = false := by simp [h9]
  have hv0 : Hid (standB ⟨op, t, f, k⟩ = decide (t ≤ 15 ∧ f ≤ 15)) := by unfold Hid standB; rw [if_neg h1, if_neg (by simp [h3, h4]), if_neg h8, if_neg h9]
  clear h1 h3 h4 h8 h9
  by_cases h5 : t ≤ 15
  · have hv : Hid (standB ⟨op, t, f, k⟩ = decide (f ≤ 15)) := by unfold Hid; rw [hv0.out]; simp [h5]
    clear hv0
    go_enter Try.func77, Try.ntmps77
    go_wp2_with fail
    go_ret
    try rw [hv.out]
    exact ⟨rfl, gb_alloc (gb_refl _ _) _⟩
  · have hv : Hid (standB ⟨op, t, f, k⟩ = false) := by unfold Hid; rw [hv0.out]; simp [h5]
    have d5 : decide (t ≤ 15) = false := by simp; omega
    clear hv0
    go_enter Try.func77, Try.ntmps77
    go_wp2_with fail
    go_ret
    try rw [hv.out]
    exact ⟨rfl, gb_alloc (gb_refl _ _) _⟩

set_option maxRecDepth 100000 in
set_option maxHeartbeats 2000000 in
theorem mLeads_any (w : World) (x : Sc.In) (left : Int) :
    Calls Try.prog 78 #[.agg (inCells x), .int .i64 left] w fun e w' => e = .returned (.bool (leadsB x left)) ∧ w.grownBy w' none := by
  obtain ⟨op, t, f, k⟩ := x
  simp only [inCells]
  have hT := fun w => mIsTest_any w op
  by_cases h1 : op = 10
  · subst h1
    have hv : Hid (leadsB ⟨10, t, f, k⟩ left = decide (k < left)) := by unfold Hid leadsB; rw [if_pos rfl]
    clear hT
    go_enter Try.func78, Try.ntmps78
    go_wp2_with fail
    go_ret
    try rw [hv.out]
    exact ⟨rfl, gb_alloc (gb_refl _ _) _⟩
  have e1 : (op == 10) = false := by simp [h1]
  by_cases h2 : Sc.isTest op = true
  · have hv0 : Hid (leadsB ⟨op, t, f, k⟩ left = decide (t < left ∧ f < left)) := by unfold Hid leadsB; rw [if_neg h1, if_pos h2]
    rw [h2] at hT
    clear h1 h2
    by_cases h5 : t < left
    · have hv : Hid (leadsB ⟨op, t, f, k⟩ left = decide (f < left)) := by unfold Hid; rw [hv0.out]; simp [h5]
      clear hv0
      go_enter Try.func78, Try.ntmps78
      go_wp2_with fail
      refine (hT _).mono ?_
      rintro e w1 ⟨rfl, rfl⟩
      clear hT
      go_wp2_with fail
      go_ret
      rw [hv.out]
      exact ⟨rfl, gb_alloc (gb_refl _ _) _⟩
    · have hv : Hid (leadsB ⟨op, t, f, k⟩ left = false) := by unfold Hid; rw [hv0.out]; simp [h5]
      have d5 : decide (t < left) = false := by simp; omega
      clear hv0
      go_enter Try.func78, Try.ntmps78
      go_wp2_with fail
      refine (hT _).mono ?_
      rintro e w1 ⟨rfl, rfl⟩
      clear hT
      go_wp2_with fail
      go_ret
      rw [hv.out]
      exact ⟨rfl, gb_alloc (gb_refl _ _) _⟩
  · have hv : Hid (leadsB ⟨op, t, f, k⟩ left = true) := by unfold Hid leadsB; rw [if_neg h1, if_neg h2]
    have h2' : Sc.isTest op = false := by simpa using h2
    rw [h2'] at hT
    clear h1 h2 h2'
    go_enter Try.func78, Try.ntmps78
    go_wp2_with fail
    refine (hT _).mono ?_
    rintro e w1 ⟨rfl, rfl⟩
    clear hT
    go_wp2_with fail
    go_ret
    rw [hv.out]
    exact ⟨rfl, gb_alloc (gb_refl _ _) _⟩

/-- what is not well with an instruction, as the program asks it -/
def faultE (x : Sc.In) (left : Int) : Int :=
  if x.op < 1 ∨ 16 < x.op then 4 else if unusedB x = false then 5 else if standB x = false then 6 else if leadsB x left = false then 7 else 0
theorem faultE_eq (x : Sc.In) (left : Int) (h : InRng x) : faultE x left = Sc.wrongE x left := by
  obtain ⟨op, t, f, k⟩ := x
  obtain ⟨h1, h2, h3, h4, h5, h6, h7, h8⟩ := h
  simp only at h1 h2 h3 h4 h5 h6 h7 h8
  unfold faultE Sc.wrongE
  simp only
  by_cases a1 : op < 1 ∨ 16 < op
  · rw [if_pos a1, if_pos a1]
  rw [if_neg a1, if_neg a1]
  have hT := isTest_iff op
  by_cases a2 : Sc.isTest op = true
  · have hop : 11 ≤ op ∧ op ≤ 14 := by rw [a2] at hT; simpa using hT.symm
    have u : unusedB ⟨op, t, f, k⟩ = true := by unfold unusedB; rw [if_pos a2]
    have s : standB ⟨op, t, f, k⟩ = Sc.mayB ⟨op, t, f, k⟩ := by
      unfold standB Sc.mayB
      simp only
      rw [if_neg (by omega), if_neg (by omega), if_neg (by omega), if_neg (by omega)]
      by_cases b : 15 < t ∨ 15 < f
      · rw [if_pos b]; simp; omega
      · rw [if_neg b, if_neg (by omega), if_neg (by omega), if_neg (by omega), if_neg (by omega)]; simp; omega
    have l : (leadsB ⟨op, t, f, k⟩ left = false) ↔ ((op = 10 ∧ left ≤ k) ∨ (Sc.isTest op = true ∧ (left ≤ t ∨ left ≤ f))) := by
      unfold leadsB
      simp only
      rw [if_neg (by omega), if_pos a2]
      constructor
      · intro q
        simp only [decide_eq_false_iff_not] at q
        exact Or.inr ⟨a2, by omega⟩
      · rintro (⟨q, _⟩ | ⟨_, q⟩)
        · omega
        · simp only [decide_eq_false_iff_not]; omega
    have nu : ¬ ((Sc.isTest op = false ∧ 0 < t + f) ∨ (op = 16 ∧ 0 < k)) := by
      rintro (⟨q, _⟩ | ⟨q, _⟩)
      · rw [a2] at q; cases q
      · omega
    rw [if_neg (show ¬ (unusedB ⟨op, t, f, k⟩ = false) by simp [u]), if_neg nu, s]
    by_cases b : Sc.mayB ⟨op, t, f, k⟩ = false
    · rw [if_pos b, if_pos b]
    · rw [if_neg b, if_neg b]
      by_cases d : leadsB ⟨op, t, f, k⟩ left = false
      · rw [if_pos d, if_pos (l.1 d)]
      · rw [if_neg d, if_neg (fun q => d (l.2 q))]
  · have a2' : Sc.isTest op = false := by simpa using a2
    have hop : ¬ (11 ≤ op ∧ op ≤ 14) := by rw [a2'] at hT; simpa using hT.symm
    have u : (unusedB ⟨op, t, f, k⟩ = false) ↔ ((Sc.isTest op = false ∧ 0 < t + f) ∨ (op = 16 ∧ 0 < k)) := by
      unfold unusedB
      simp only
      rw [if_neg a2]
      by_cases b : op = 16 ∧ k ≠ 0
      · rw [if_pos b]; simp only [true_iff]; right; omega
      · rw [if_neg b]; simp only [a2', decide_eq_false_iff_not, true_and]; omega
    by_cases b : unusedB ⟨op, t, f, k⟩ = false
    · rw [if_pos b, if_pos (u.1 b)]
    · rw [if_neg b, if_neg (fun q => b (u.2 q))]
      have hz : t = 0 ∧ f = 0 := by
        have : ¬ ((Sc.isTest op = false ∧ 0 < t + f) ∨ (op = 16 ∧ 0 < k)) := fun q => b (u.2 q)
        simp only [a2', true_and] at this
        omega
      obtain ⟨rfl, rfl⟩ := hz
      have s : standB ⟨op, 0, 0, k⟩ = Sc.mayB ⟨op, 0, 0, k⟩ := by
        unfold standB Sc.mayB
        simp only
        rw [if_neg (by omega : ¬ (15 < (0:Int) ∨ 15 < (0:Int)))]
        by_cases c1 : op = 1
        · rw [if_pos c1, if_pos c1]
          by_cases c2 : k % 2 = 0 <;> simp [c2]
        rw [if_neg c1, if_neg c1]
        by_cases c3 : op = 3 ∨ op = 4
        · rw [if_pos c3, if_pos c3]; exact decide_eq_decide.2 (by omega)
        rw [if_neg c3, if_neg c3]
        by_cases c8 : op = 8
        · rw [if_pos c8, if_pos c8]; exact decide_eq_decide.2 (by omega)
        rw [if_neg c8, if_neg c8]
        by_cases c9 : op = 9
        · rw [if_pos c9, if_pos c9]
        rw [if_neg c9, if_neg c9]; simp
      have l : (leadsB ⟨op, 0, 0, k⟩ left = false) ↔ ((op = 10 ∧ left ≤ k) ∨ (Sc.isTest op = true ∧ (left ≤ 0 ∨ left ≤ 0))) := by
        unfold leadsB
        simp only [a2']
        by_cases c10 : op = 10
        · rw [if_pos c10]; simp [c10]
        · rw [if_neg c10]; simp [c10]
      rw [s]
      by_cases b : Sc.mayB ⟨op, 0, 0, k⟩ = false
      · rw [if_pos b, if_pos b]
      · rw [if_neg b, if_neg b]
        by_cases d : leadsB ⟨op, 0, 0, k⟩ left = false
        · rw [if_pos d, if_pos (l.1 d)]
        · rw [if_neg d, if_neg (fun q => d (l.2 q))]
end Go.Proofs.Ytldongbimhngfaa
