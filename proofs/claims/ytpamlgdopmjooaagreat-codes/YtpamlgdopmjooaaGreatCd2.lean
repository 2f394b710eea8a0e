/- What is asked of an instruction: the document's walks. -/
import Derived.Test.YtpamlgdopmjooaaGreatMd3
namespace Go.Proofs.YtpamlgdopmjooaaGreat
open Go.RowKit
set_option linter.unusedVariables false
set_option linter.unusedSimpArgs false

set_option maxHeartbeats 1000000 in
theorem rTest_any (w : World) (op : Int) :
    Calls Tryz.prog 65 #[.int .i64 op] w fun e w' => e = .returned (.bool (Sc.isTest op)) ∧ w' = w := by
  by_cases h11 : op = 11
  · subst h11
    go_enter Tryz.func65, Tryz.ntmps65
    go_wp2
    go_ret
    exact ⟨rfl, rfl⟩
  by_cases h12 : op = 12
  · subst h12
    clear h11
    go_enter Tryz.func65, Tryz.ntmps65
    go_wp2
    go_ret
    exact ⟨rfl, rfl⟩
  by_cases h13 : op = 13
  · subst h13
    clear h11 h12
    go_enter Tryz.func65, Tryz.ntmps65
    go_wp2
    go_ret
    exact ⟨rfl, rfl⟩
  by_cases h14 : op = 14
  · subst h14
    clear h11 h12 h13
    go_enter Tryz.func65, Tryz.ntmps65
    go_wp2
    go_ret
    exact ⟨rfl, rfl⟩
  have e11 : (op == 11) = false := by simp [h11]
  have e12 : (op == 12) = false := by simp [h12]
  have e13 : (op == 13) = false := by simp [h13]
  have e14 : (op == 14) = false := by simp [h14]
  have hv : Hid (Sc.isTest op = false) := by unfold Hid Sc.isTest; rw [e11, e12, e13, e14]; rfl
  clear h11 h12 h13 h14
  go_enter Tryz.func65, Tryz.ntmps65
  go_wp2
  go_ret
  rw [hv.out]
  exact ⟨rfl, rfl⟩

set_option maxRecDepth 100000 in
set_option maxHeartbeats 2000000 in
theorem rMay_any (w : World) (x : Sc.In) (h0 : 0 ≤ x.k) :
    Calls Tryz.prog 66 #[.agg (inCells x)] w fun e w' => e = .returned (.bool (Sc.mayB x)) ∧ w.grownBy w' none := by
  obtain ⟨op, t, f, k⟩ := x
  simp only at h0
  simp only [inCells]
  by_cases h5 : 15 < t
  · have hv : Hid (Sc.mayB ⟨op, t, f, k⟩ = false) := by unfold Hid Sc.mayB; rw [if_pos (Or.inl h5)]
    go_enter Tryz.func66, Tryz.ntmps66
    go_wp2_with fail
    go_ret
    try rw [hv.out]
    exact ⟨rfl, gb_alloc (gb_refl _ _) _⟩
  have d5 : decide (15 < t) = false := by simp; omega
  by_cases h6 : 15 < f
  · have hv : Hid (Sc.mayB ⟨op, t, f, k⟩ = false) := by unfold Hid Sc.mayB; rw [if_pos (Or.inr h6)]
    have d6 : decide (15 < f) = true := by simp [h6]
    go_enter Tryz.func66, Tryz.ntmps66
    go_wp2_with fail
    go_ret
    try rw [hv.out]
    exact ⟨rfl, gb_alloc (gb_refl _ _) _⟩
  have d6 : decide (15 < f) = false := by simp; omega
  have hv0 : Hid (∀ op, Sc.mayB ⟨op, t, f, k⟩ = if op = 1 then (k % 2 == 0 && decide (k ≤ 18)) else if op = 3 ∨ op = 4 then decide (k ≤ 3) else if op = 8 then decide (0 < k) else if op = 9 then decide (k ≤ 15) else true) := by
    unfold Hid Sc.mayB; intro op; rw [if_neg (by simp only; omega)]
  clear h5 h6
  by_cases h1 : op = 1
  · subst h1
    by_cases h2 : k % 2 = 0
    · have e2 : (k % 2 == 0) = true := by simp [h2]
      have hv : Hid (Sc.mayB ⟨1, t, f, k⟩ = decide (k ≤ 18)) := by unfold Hid; rw [hv0.out, if_pos rfl, e2]; rfl
      clear hv0
      go_enter Tryz.func66, Tryz.ntmps66
      go_wp2_with fail
      go_ret
      try rw [hv.out]
      exact ⟨rfl, gb_alloc (gb_refl _ _) _⟩
    · have e2 : (k % 2 == 0) = false := by simp [h2]
      have hv : Hid (Sc.mayB ⟨1, t, f, k⟩ = false) := by unfold Hid; rw [hv0.out, if_pos rfl, e2]; rfl
      clear hv0 h2
      go_enter Tryz.func66, Tryz.ntmps66
      go_wp2_with fail
      go_ret
      try rw [hv.out]
      exact ⟨rfl, gb_alloc (gb_refl _ _) _⟩
  by_cases h3 : op = 3
  · subst h3
    have hv : Hid (Sc.mayB ⟨3, t, f, k⟩ = decide (k ≤ 3)) := by unfold Hid; rw [hv0.out, if_neg (by decide), if_pos (Or.inl rfl)]
    clear hv0 h1
    go_enter Tryz.func66, Tryz.ntmps66
    go_wp2_with fail
    go_ret
    try rw [hv.out]
    exact ⟨rfl, gb_alloc (gb_refl _ _) _⟩
  by_cases h4 : op = 4
  · subst h4
    have hv : Hid (Sc.mayB ⟨4, t, f, k⟩ = decide (k ≤ 3)) := by unfold Hid; rw [hv0.out, if_neg (by decide), if_pos (Or.inr rfl)]
    clear hv0 h1 h3
    go_enter Tryz.func66, Tryz.ntmps66
    go_wp2_with fail
    go_ret
    try rw [hv.out]
    exact ⟨rfl, gb_alloc (gb_refl _ _) _⟩
  by_cases h8 : op = 8
  · subst h8
    have hv : Hid (Sc.mayB ⟨8, t, f, k⟩ = decide (0 < k)) := by unfold Hid; rw [hv0.out, if_neg (by decide), if_neg (by decide), if_pos rfl]
    clear hv0 h1 h3 h4
    go_enter Tryz.func66, Tryz.ntmps66
    go_wp2_with fail
    go_ret
    try rw [hv.out]
    exact ⟨rfl, gb_alloc (gb_refl _ _) _⟩
  by_cases h9 : op = 9
  · subst h9
    have hv : Hid (Sc.mayB ⟨9, t, f, k⟩ = decide (k ≤ 15)) := by unfold Hid; rw [hv0.out, if_neg (by decide), if_neg (by decide), if_neg (by decide), if_pos rfl]
    clear hv0 h1 h3 h4 h8
    go_enter Tryz.func66, Tryz.ntmps66
    go_wp2_with fail
    go_ret
    try rw [hv.out]
    exact ⟨rfl, gb_alloc (gb_refl _ _) _⟩
  have e1 : (op == 1) = false := by simp [h1]
  have e3 : (op == 3) = false := by simp [h3]
  have e4 : (op == 4) = false := by simp [h4]
  have e8 : (op == 8) = false := by simp [h8]
  have e9 : (op == 9) = false := by simp [h9]
  have hv : Hid (Sc.mayB ⟨op, t, f, k⟩ = true) := by unfold Hid; rw [hv0.out, if_neg h1, if_neg (by simp [h3, h4]), if_neg h8, if_neg h9]
  clear hv0 h1 h3 h4 h8 h9
  go_enter Tryz.func66, Tryz.ntmps66
  go_wp2_with fail
  go_ret
  try rw [hv.out]
  exact ⟨rfl, gb_alloc (gb_refl _ _) _⟩

theorem ite_cond_congr {a b : Prop} [Decidable a] [Decidable b] {α : Type} {x y : α} (h : a = b) : (if a then x else y) = (if b then x else y) := by
  subst h; congr

set_option maxRecDepth 100000 in
set_option maxHeartbeats 4000000 in
theorem rWrong_any (w : World) (sa : Option Addr) (sc : Nat) (L : List Sc.In) (hI : InsAt w sa L) (hle : L.length ≤ 1024) (i : Nat) (hi : i < L.length) (hx : InRng L[i]) :
    Calls Tryz.prog 47 #[.slice sa L.length sc, .int .i64 i] w fun e w' => e = .returned (.int .i64 (Sc.wrongE L[i] ((L.length : Int) - i - 1))) ∧ w.grownBy w' none := by
  obtain ⟨b, off, rfl, hb, hcell⟩ := hI i hi
  have t0 := hcell 0 (by omega)
  have t1 := hcell 1 (by omega)
  have t2 := hcell 2 (by omega)
  have t3 := hcell 3 (by omega)
  have hM := hid (fun w => rMay_any w L[i] hx.2.2.2.2.2.2.1)
  have hdef : Hid (Sc.wrongE L[i] ((L.length : Int) - i - 1) = if L[i].op < 1 ∨ 16 < L[i].op then 4 else if (Sc.isTest L[i].op = false ∧ 0 < L[i].t + L[i].f) ∨ (L[i].op = 16 ∧ 0 < L[i].k) then 5 else if Sc.mayB L[i] = false then 6
    else if (L[i].op = 10 ∧ ((L.length : Int) - i - 1) ≤ L[i].k) ∨ (Sc.isTest L[i].op = true ∧ (((L.length : Int) - i - 1) ≤ L[i].t ∨ ((L.length : Int) - i - 1) ≤ L[i].f)) then 7 else 0) := rfl
  generalize L[i] = X at *
  generalize Sc.wrongE X ((L.length : Int) - i - 1) = E at *
  generalize Sc.mayB X = mb at *
  obtain ⟨op, t, f, k⟩ := X
  obtain ⟨x1, x2, x3, x4, x5, x6, x7, x8⟩ := hx
  simp only at x1 x2 x3 x4 x5 x6 x7 x8 hdef
  simp [inCells] at t0 t1 t2 t3
  simp only [inCells] at hM
  have hT := fun w => rTest_any w op
  have hti := isTest_iff op
  obtain ⟨left, hleft⟩ : ∃ left, left = (L.length : Int) - i - 1 := ⟨_, rfl⟩
  rw [← hleft] at hdef
  clear hcell hI
  have MK := hid (fun w1 (hg : (w.alloc (.cells #[.int .i64 op, .int .i64 t, .int .i64 f, .int .i64 k] 35)).grownBy w1 none) => (Blk.new w 35 #[.int .i64 op, .int .i64 t, .int .i64 f, .int .i64 k]).keep hg (by simp))
  by_cases h1 : op < 1
  · have hv : Hid (E = 4) := by unfold Hid; rw [hdef.out, if_pos (Or.inl h1)]
    clear hdef hti hT hM
    go_enter Tryz.func47, Tryz.ntmps47
    go_wp2_with fail
    go_ret
    rw [hv.out]
    exact ⟨rfl, gb_alloc (gb_refl _ _) _⟩
  by_cases h2 : 16 < op
  · have hv : Hid (E = 4) := by unfold Hid; rw [hdef.out, if_pos (Or.inr h2)]
    have d1 : decide (op < 1) = false := by simp; omega
    have d2 : decide (16 < op) = true := by simp [h2]
    clear hdef hti hT hM
    go_enter Tryz.func47, Tryz.ntmps47
    go_wp2_with fail
    go_ret
    rw [hv.out]
    exact ⟨rfl, gb_alloc (gb_refl _ _) _⟩
  have d1 : decide (op < 1) = false := by simp; omega
  have d2 : decide (16 < op) = false := by simp; omega
  have hdef2 : Hid (E = if (Sc.isTest op = false ∧ 0 < t + f) ∨ (op = 16 ∧ 0 < k) then 5 else if mb = false then 6
    else if (op = 10 ∧ left ≤ k) ∨ (Sc.isTest op = true ∧ (left ≤ t ∨ left ≤ f)) then 7 else 0) := by unfold Hid; rw [hdef.out, if_neg (by omega)]
  clear hdef
  by_cases h3 : Sc.isTest op = true
  · have hop : 11 ≤ op ∧ op ≤ 14 := by rw [h3] at hti; simpa using hti.symm
    have d16 : (op == 16) = false := by simp; omega
    have d10 : (op == 10) = false := by simp; omega
    have hdef3 : Hid (E = if mb = false then 6 else if (left ≤ t ∨ left ≤ f) then 7 else 0) := by
      unfold Hid; rw [hdef2.out, h3, if_neg (by rintro (⟨q, _⟩ | ⟨q, _⟩); (· cases q); (· omega))]
      have : ((op = 10 ∧ left ≤ k) ∨ (true = true ∧ (left ≤ t ∨ left ≤ f))) = (left ≤ t ∨ left ≤ f) := by
        refine propext ⟨?_, ?_⟩
        · rintro (⟨q, _⟩ | ⟨_, q⟩)
          · omega
          · exact q
        · intro q; exact Or.inr ⟨rfl, q⟩
      rw [ite_cond_congr this]
    rw [h3] at hT
    clear hdef2 hti h3 hop
    cases mb
    · have hv : Hid (E = 6) := by unfold Hid; rw [hdef3.out, if_pos rfl]
      clear hdef3
      go_enter Tryz.func47, Tryz.ntmps47
      go_wp2_with fail
      refine (hT _).mono ?_
      rintro e w1 ⟨rfl, rfl⟩
      clear hT
      go_wp2_with fail
      refine (hM.out _).mono ?_
      rintro e w2 ⟨rfl, hg2⟩
      have B0 := MK.out w2 hg2
      have b0 := B0.cell 0
      have b1 := B0.cell 1
      have b2 := B0.cell 2
      have b3 := B0.cell 3
      simp at b0 b1 b2 b3
      have Hg2 := hid hg2
      clear hg2 B0
      go_wp2_with fail
      go_ret
      rw [hv.out]
      exact ⟨rfl, gb_unalloc Hg2.out⟩
    · have hdef4 : Hid (E = if (left ≤ t ∨ left ≤ f) then 7 else 0) := by unfold Hid; rw [hdef3.out, if_neg (by simp)]
      clear hdef3
      by_cases h7 : left ≤ t
      · have hv : Hid (E = 7) := by unfold Hid; rw [hdef4.out, if_pos (Or.inl h7)]
        have d7 : decide ((L.length : Int) - i - 1 ≤ t) = true := by simp; omega
        have Hl := hid hleft
        clear hdef4 hleft
        go_enter Tryz.func47, Tryz.ntmps47
        go_wp2_with fail
        refine (hT _).mono ?_
        rintro e w1 ⟨rfl, rfl⟩
        clear hT
        go_wp2_with fail
        refine (hM.out _).mono ?_
        rintro e w2 ⟨rfl, hg2⟩
        have B0 := MK.out w2 hg2
        have b0 := B0.cell 0
        have b1 := B0.cell 1
        have b2 := B0.cell 2
        have b3 := B0.cell 3
        simp at b0 b1 b2 b3
        have Hg2 := hid hg2
        clear hg2 B0
        go_wp2_with fail
        go_ret
        rw [hv.out]
        exact ⟨rfl, gb_unalloc Hg2.out⟩
      by_cases h8 : left ≤ f
      · have hv : Hid (E = 7) := by unfold Hid; rw [hdef4.out, if_pos (Or.inr h8)]
        have d7 : decide ((L.length : Int) - i - 1 ≤ t) = false := by simp; omega
        have d8 : decide ((L.length : Int) - i - 1 ≤ f) = true := by simp; omega
        have Hl := hid hleft
        clear hdef4 hleft
        go_enter Tryz.func47, Tryz.ntmps47
        go_wp2_with fail
        refine (hT _).mono ?_
        rintro e w1 ⟨rfl, rfl⟩
        clear hT
        go_wp2_with fail
        refine (hM.out _).mono ?_
        rintro e w2 ⟨rfl, hg2⟩
        have B0 := MK.out w2 hg2
        have b0 := B0.cell 0
        have b1 := B0.cell 1
        have b2 := B0.cell 2
        have b3 := B0.cell 3
        simp at b0 b1 b2 b3
        have Hg2 := hid hg2
        clear hg2 B0
        go_wp2_with fail
        go_ret
        rw [hv.out]
        exact ⟨rfl, gb_unalloc Hg2.out⟩
      have hv : Hid (E = 0) := by unfold Hid; rw [hdef4.out, if_neg (by omega)]
      have d7 : decide ((L.length : Int) - i - 1 ≤ t) = false := by simp; omega
      have d8 : decide ((L.length : Int) - i - 1 ≤ f) = false := by simp; omega
      have Hl := hid hleft
      clear hdef4 hleft
      go_enter Tryz.func47, Tryz.ntmps47
      go_wp2_with fail
      refine (hT _).mono ?_
      rintro e w1 ⟨rfl, rfl⟩
      clear hT
      go_wp2_with fail
      refine (hM.out _).mono ?_
      rintro e w2 ⟨rfl, hg2⟩
      have B0 := MK.out w2 hg2
      have b0 := B0.cell 0
      have b1 := B0.cell 1
      have b2 := B0.cell 2
      have b3 := B0.cell 3
      simp at b0 b1 b2 b3
      have Hg2 := hid hg2
      clear hg2 B0
      go_wp2_with fail
      go_ret
      rw [hv.out]
      exact ⟨rfl, gb_unalloc Hg2.out⟩
  · have h3' : Sc.isTest op = false := by simpa using h3
    rw [h3'] at hT
    by_cases h4 : 0 < t + f
    · have hv : Hid (E = 5) := by unfold Hid; rw [hdef2.out, if_pos (Or.inl ⟨h3', h4⟩)]
      have d4 : decide (0 < t + f) = true := by simp [h4]
      clear hdef2 hti hM h3 h3' h4
      go_enter Tryz.func47, Tryz.ntmps47
      go_wp2_with fail
      refine (hT _).mono ?_
      rintro e w1 ⟨rfl, rfl⟩
      clear hT
      go_wp2_with fail
      go_ret
      rw [hv.out]
      exact ⟨rfl, gb_alloc (gb_refl _ _) _⟩
    have d4 : decide (0 < t + f) = false := by simp; omega
    have hdef3 : Hid (E = if (op = 16 ∧ 0 < k) then 5 else if mb = false then 6 else if (op = 10 ∧ left ≤ k) then 7 else 0) := by
      unfold Hid; rw [hdef2.out, h3']
      have a : ((false = false ∧ 0 < t + f) ∨ (op = 16 ∧ 0 < k)) = (op = 16 ∧ 0 < k) := by
        refine propext ⟨?_, ?_⟩
        · rintro (⟨_, q⟩ | q)
          · omega
          · exact q
        · exact Or.inr
      have b : ((op = 10 ∧ left ≤ k) ∨ (false = true ∧ (left ≤ t ∨ left ≤ f))) = (op = 10 ∧ left ≤ k) := by
        refine propext ⟨?_, ?_⟩
        · rintro (q | ⟨q, _⟩)
          · exact q
          · cases q
        · exact Or.inl
      rw [ite_cond_congr a, ite_cond_congr b]
    clear hdef2 hti h3 h3' h4
    by_cases h16 : op = 16
    · subst h16
      by_cases hk : 0 < k
      · have hv : Hid (E = 5) := by unfold Hid; rw [hdef3.out, if_pos ⟨rfl, hk⟩]
        have dk : decide (0 < k) = true := by simp [hk]
        clear hdef3 hM
        go_enter Tryz.func47, Tryz.ntmps47
        go_wp2_with fail
        refine (hT _).mono ?_
        rintro e w1 ⟨rfl, rfl⟩
        clear hT
        go_wp2_with fail
        go_ret
        rw [hv.out]
        exact ⟨rfl, gb_alloc (gb_refl _ _) _⟩
      have dk : decide (0 < k) = false := by simp; omega
      cases mb
      · have hv : Hid (E = 6) := by unfold Hid; rw [hdef3.out, if_neg (by omega), if_pos rfl]
        clear hdef3
        go_enter Tryz.func47, Tryz.ntmps47
        go_wp2_with fail
        refine (hT _).mono ?_
        rintro e w1 ⟨rfl, rfl⟩
        clear hT
        go_wp2_with fail
        refine (hM.out _).mono ?_
        rintro e w2 ⟨rfl, hg2⟩
        have B0 := MK.out w2 hg2
        have b0 := B0.cell 0
        have b1 := B0.cell 1
        have b2 := B0.cell 2
        have b3 := B0.cell 3
        simp at b0 b1 b2 b3
        have Hg2 := hid hg2
        clear hg2 B0
        go_wp2_with fail
        go_ret
        rw [hv.out]
        exact ⟨rfl, gb_unalloc Hg2.out⟩
      · have hv : Hid (E = 0) := by unfold Hid; rw [hdef3.out, if_neg (by omega), if_neg (by simp), if_neg (by omega)]
        clear hdef3
        go_enter Tryz.func47, Tryz.ntmps47
        go_wp2_with fail
        refine (hT _).mono ?_
        rintro e w1 ⟨rfl, rfl⟩
        clear hT
        go_wp2_with fail
        refine (hM.out _).mono ?_
        rintro e w2 ⟨rfl, hg2⟩
        have B0 := MK.out w2 hg2
        have b0 := B0.cell 0
        have b1 := B0.cell 1
        have b2 := B0.cell 2
        have b3 := B0.cell 3
        simp at b0 b1 b2 b3
        have Hg2 := hid hg2
        clear hg2 B0
        go_wp2_with fail
        go_ret
        rw [hv.out]
        exact ⟨rfl, gb_unalloc Hg2.out⟩
    have d16 : (op == 16) = false := by simp [h16]
    cases mb
    · have hv : Hid (E = 6) := by unfold Hid; rw [hdef3.out, if_neg (by omega), if_pos rfl]
      clear hdef3 h16
      go_enter Tryz.func47, Tryz.ntmps47
      go_wp2_with fail
      refine (hT _).mono ?_
      rintro e w1 ⟨rfl, rfl⟩
      clear hT
      go_wp2_with fail
      refine (hM.out _).mono ?_
      rintro e w2 ⟨rfl, hg2⟩
      have B0 := MK.out w2 hg2
      have b0 := B0.cell 0
      have b1 := B0.cell 1
      have b2 := B0.cell 2
      have b3 := B0.cell 3
      simp at b0 b1 b2 b3
      have Hg2 := hid hg2
      clear hg2 B0
      go_wp2_with fail
      go_ret
      rw [hv.out]
      exact ⟨rfl, gb_unalloc Hg2.out⟩
    have hdef4 : Hid (E = if (op = 10 ∧ left ≤ k) then 7 else 0) := by unfold Hid; rw [hdef3.out, if_neg (by omega), if_neg (by simp)]
    clear hdef3 h16
    by_cases h10 : op = 10
    · subst h10
      by_cases hk : left ≤ k
      · have hv : Hid (E = 7) := by unfold Hid; rw [hdef4.out, if_pos ⟨rfl, hk⟩]
        have d7 : decide ((L.length : Int) - i - 1 ≤ k) = true := by simp; omega
        have Hl := hid hleft
        clear hdef4 hleft
        go_enter Tryz.func47, Tryz.ntmps47
        go_wp2_with fail
        refine (hT _).mono ?_
        rintro e w1 ⟨rfl, rfl⟩
        clear hT
        go_wp2_with fail
        refine (hM.out _).mono ?_
        rintro e w2 ⟨rfl, hg2⟩
        have B0 := MK.out w2 hg2
        have b0 := B0.cell 0
        have b1 := B0.cell 1
        have b2 := B0.cell 2
        have b3 := B0.cell 3
        simp at b0 b1 b2 b3
        have Hg2 := hid hg2
        clear hg2 B0
        go_wp2_with fail
        go_ret
        rw [hv.out]
        exact ⟨rfl, gb_unalloc Hg2.out⟩
      have hv : Hid (E = 0) := by unfold Hid; rw [hdef4.out, if_neg (by omega)]
      have d7 : decide ((L.length : Int) - i - 1 ≤ k) = false := by simp; omega
      have Hl := hid hleft
      clear hdef4 hleft
      go_enter Tryz.func47, Tryz.ntmps47
      go_wp2_with fail
      refine (hT _).mono ?_
      rintro e w1 ⟨rfl, rfl⟩
      clear hT
      go_wp2_with fail
      refine (hM.out _).mono ?_
      rintro e w2 ⟨rfl, hg2⟩
      have B0 := MK.out w2 hg2
      have b0 := B0.cell 0
      have b1 := B0.cell 1
      have b2 := B0.cell 2
      have b3 := B0.cell 3
      simp at b0 b1 b2 b3
      have Hg2 := hid hg2
      clear hg2 B0
      go_wp2_with fail
      go_ret
      rw [hv.out]
      exact ⟨rfl, gb_unalloc Hg2.out⟩
    have d10 : (op == 10) = false := by simp [h10]
    have hv : Hid (E = 0) := by unfold Hid; rw [hdef4.out, if_neg (by omega)]
    clear hdef4 h10
    go_enter Tryz.func47, Tryz.ntmps47
    go_wp2_with fail
    refine (hT _).mono ?_
    rintro e w1 ⟨rfl, rfl⟩
    clear hT
    go_wp2_with fail
    refine (hM.out _).mono ?_
    rintro e w2 ⟨rfl, hg2⟩
    have B0 := MK.out w2 hg2
    have b0 := B0.cell 0
    have b1 := B0.cell 1
    have b2 := B0.cell 2
    have b3 := B0.cell 3
    simp at b0 b1 b2 b3
    have Hg2 := hid hg2
    clear hg2 B0
    go_wp2_with fail
    go_ret
    rw [hv.out]
    exact ⟨rfl, gb_unalloc Hg2.out⟩
end Go.Proofs.YtpamlgdopmjooaaGreat
