/- How a code runs: the document's walks. -/
import Derived.Test.YtpamlgdopmjooaaGreatCd2
import Derived.Test.YtpamlgdopmjooaaGreatCd1
import Derived.Test.YtpamlgdopmjooaaGreatGMd
namespace Go.Proofs.YtpamlgdopmjooaaGreat
open Go.RowKit
set_option linter.unusedVariables false
set_option linter.unusedSimpArgs false

set_option maxHeartbeats 1000000 in
theorem rEither_any (w : World) (a k : Int) (h1 : 0 ≤ a) (h2 : a ≤ 65535) (h3 : 0 ≤ k) (h4 : k ≤ 65535) :
    Calls Tryz.prog 83 #[.int .i64 a, .int .i64 k] w fun e w' => e = .returned (.int .i64 (a + k - Sv.land a k)) ∧ w' = w := by
  have hS := fun w => shared_any w a k h1 (by omega) h3 (by omega)
  have l := land_le a k h1
  generalize Sv.land a k = z at *
  go_enter Tryz.func83, Tryz.ntmps83
  go_wp2_with fail
  refine (hS _).mono ?_
  rintro e w1 ⟨rfl, rfl⟩
  clear hS
  have l1 := l.1
  have l2 := l.2
  clear l
  go_wp2_with fail
  go_ret
  exact ⟨rfl, rfl⟩

theorem half_pow (a : Int) (i : Nat) : a / 2 ^ i / 2 = a / 2 ^ (i + 1) := by
  rw [Int.pow_succ, Int.ediv_ediv_of_nonneg (Int.le_of_lt (Int.pow_pos (by omega)))]
theorem pow_half_rng (a : Int) (i : Nat) (h1 : 0 ≤ a) (h2 : a ≤ 65535) : 0 ≤ a / 2 ^ i ∧ a / 2 ^ i ≤ 65535 :=
  ⟨Int.ediv_nonneg h1 (Int.le_of_lt (Int.pow_pos (by omega))), Int.le_trans (Int.ediv_le_self _ h1) h2⟩

set_option maxRecDepth 100000 in
set_option maxHeartbeats 2000000 in
theorem rBecomes_any (w : World) (x : Sc.In) (a : Int) (h1 : 0 ≤ a) (h2 : a ≤ 65535) (h3 : 0 ≤ x.k) (h4 : x.k ≤ 65535) (h8 : x.op = 8 → x.k ≠ 0) (h9 : x.op = 9 → x.k ≤ 15) :
    Calls Tryz.prog 69 #[.agg (inCells x), .int .i64 a] w fun e w' => e = .returned (.int .i64 (Sc.becomes x a)) ∧ w.grownBy w' none := by
  obtain ⟨op, t, f, k⟩ := x
  simp only at h3 h4 h8 h9
  simp only [inCells]
  by_cases q5 : op = 5
  · subst q5
    have hv : Hid (Sc.becomes ⟨5, t, f, k⟩ a = Sv.land a k) := rfl
    have hS := fun w => shared_any w a k h1 (by omega) h3 (by omega)
    clear h8 h9
    go_enter Tryz.func69, Tryz.ntmps69
    go_wp2_with fail
    refine (hS _).mono ?_
    rintro e w1 ⟨rfl, rfl⟩
    clear hS
    go_wp2_with fail
    go_ret
    rw [hv.out]
    exact ⟨rfl, gb_alloc (gb_refl _ _) _⟩
  by_cases q6 : op = 6
  · subst q6
    have hv : Hid (Sc.becomes ⟨6, t, f, k⟩ a = a + k - Sv.land a k) := rfl
    have hS := fun w => rEither_any w a k h1 h2 h3 h4
    clear h8 h9 q5
    go_enter Tryz.func69, Tryz.ntmps69
    go_wp2_with fail
    refine (hS _).mono ?_
    rintro e w1 ⟨rfl, rfl⟩
    clear hS
    go_wp2_with fail
    go_ret
    rw [hv.out]
    exact ⟨rfl, gb_alloc (gb_refl _ _) _⟩
  by_cases q7 : op = 7
  · subst q7
    by_cases q : 65535 < a + k
    · have hv : Hid (Sc.becomes ⟨7, t, f, k⟩ a = a + k - 65536) := by unfold Hid; show (if 65535 < a + k then a + k - 65536 else a + k) = _; rw [if_pos q]
      clear h8 h9 q5 q6
      go_enter Tryz.func69, Tryz.ntmps69
      go_wp2_with fail
      go_ret
      rw [hv.out]
      exact ⟨rfl, gb_alloc (gb_refl _ _) _⟩
    · have hv : Hid (Sc.becomes ⟨7, t, f, k⟩ a = a + k) := by unfold Hid; show (if 65535 < a + k then a + k - 65536 else a + k) = _; rw [if_neg q]
      clear h8 h9 q5 q6
      go_enter Tryz.func69, Tryz.ntmps69
      go_wp2_with fail
      go_ret
      rw [hv.out]
      exact ⟨rfl, gb_alloc (gb_refl _ _) _⟩
  by_cases q8 : op = 8
  · subst q8
    have hv : Hid (Sc.becomes ⟨8, t, f, k⟩ a = a / k) := rfl
    have hk := h8 rfl
    have hk0 : 0 < k := by omega
    clear h8 h9 q5 q6 q7 hk
    go_enter Tryz.func69, Tryz.ntmps69
    go_wp2_with fail
    go_loop [1, 5] (fun y n => ∃ (b : Int) (i : Nat), y = .int .i64 b ∧ n = .int .i64 i ∧ 0 ≤ b ∧ b ≤ 65535 ∧ i ≤ 65535 ∧ Hid (b + (i : Int) * k = a)) (fun y _ => (intOf y).toNat)
    case atStart => exact ⟨a, 0, rfl, rfl, h1, h2, by omega, by unfold Hid; simp⟩
    case round =>
      obtain ⟨b, i, rfl, rfl, b0, b1, i1, hinv⟩ := hrel
      by_cases hlt : k ≤ b
      · have hi2 : i + 1 ≤ 65535 := by
          have e := hinv.out
          have e2 : (i : Int) ≤ (i : Int) * k := by
            have := Int.mul_le_mul_of_nonneg_left (show (1 : Int) ≤ k by omega) (show (0 : Int) ≤ (i : Int) by omega)
            simpa using this
          omega
        have hd : decide (0 < k) = true := by simp [hk0]
        go_wp2_with fail
        go_round
        case rel =>
          refine ⟨b - k, i + 1, rfl, by go_num, by omega, by omega, by omega, ?_⟩
          have e := hinv.out
          unfold Hid
          rw [← e]
          have : ((i + 1 : Nat) : Int) * k = (i : Int) * k + k := by rw [Int.natCast_add, Int.add_mul]; simp
          rw [this]; omega
        case measure => simp [intOf]; omega
      · have hd : decide (0 < k) = true := by simp [hk0]
        have hd2 : decide (k ≤ b) = false := by simp; omega
        have hv2 : Hid (Sc.becomes ⟨8, t, f, k⟩ a = (i : Int)) := by
          unfold Hid; rw [hv.out, ← hinv.out, Int.add_mul_ediv_right _ _ (by omega), Int.ediv_eq_zero_of_lt b0 (by omega)]; omega
        clear hv hinv
        go_wp2_with fail
        go_ret
        rw [hv2.out]
        exact ⟨rfl, gb_alloc (gb_refl _ _) _⟩
  by_cases q9 : op = 9
  · subst q9
    have hk := h9 rfl
    obtain ⟨K, rfl⟩ := Int.eq_ofNat_of_zero_le h3
    have hv : Hid (Sc.becomes ⟨9, t, f, (K : Int)⟩ a = a / 2 ^ K) := by unfold Hid; show a / 2 ^ (K : Int).toNat = _; rw [Int.toNat_natCast]
    have hK : K ≤ 15 := by omega
    clear h8 h9 q5 q6 q7 q8 hk
    go_enter Tryz.func69, Tryz.ntmps69
    go_wp2_with fail
    go_loop [1, 6] (fun y n => ∃ (b : Int) (i : Nat), y = .int .i64 b ∧ n = .int .i64 i ∧ 0 ≤ b ∧ b ≤ 65535 ∧ i ≤ K ∧ Hid (b = a / 2 ^ i)) (fun _ n => K - (intOf n).toNat)
    case atStart => exact ⟨a, 0, rfl, rfl, h1, h2, by omega, by unfold Hid; simp⟩
    case round =>
      obtain ⟨b, i, rfl, rfl, b0, b1, i1, hinv⟩ := hrel
      by_cases hlt : i < K
      · have hlt' : (i : Int) < (K : Int) := by omega
        have hp := pow_half_rng a (i + 1) h1 h2
        rw [← half_pow, ← hinv.out] at hp
        go_wp2_with fail
        go_round
        case rel =>
          refine ⟨b / 2, i + 1, rfl, by go_num, hp.1, hp.2, by omega, ?_⟩
          unfold Hid; rw [← half_pow, ← hinv.out]
        case measure => simp [intOf]; omega
      · have hik : i = K := by omega
        subst hik
        have hv2 : Hid (Sc.becomes ⟨9, t, f, (i : Int)⟩ a = b) := by unfold Hid; rw [hv.out, ← hinv.out]
        clear hv hinv
        go_wp2_with fail
        go_ret
        rw [hv2.out]
        exact ⟨rfl, gb_alloc (gb_refl _ _) _⟩
  have e5 : (op == 5) = false := by simp [q5]
  have e6 : (op == 6) = false := by simp [q6]
  have e7 : (op == 7) = false := by simp [q7]
  have e8 : (op == 8) = false := by simp [q8]
  have e9 : (op == 9) = false := by simp [q9]
  have hv : Hid (Sc.becomes ⟨op, t, f, k⟩ a = a) := by
    unfold Hid Sc.becomes; rw [if_neg q5, if_neg q6, if_neg q7, if_neg q8, if_neg q9]
  clear h8 h9 q5 q6 q7 q8 q9
  go_enter Tryz.func69, Tryz.ntmps69
  go_wp2_with fail
  go_ret
  rw [hv.out]
  exact ⟨rfl, gb_alloc (gb_refl _ _) _⟩

set_option maxRecDepth 100000 in
set_option maxHeartbeats 2000000 in
theorem rYes_any (w : World) (x : Sc.In) (a : Int) (h1 : 0 ≤ a) (h2 : a ≤ 65535) (h3 : 0 ≤ x.k) (h4 : x.k ≤ 65535) :
    Calls Tryz.prog 82 #[.agg (inCells x), .int .i64 a] w fun e w' => e = .returned (.bool (Sc.yes x a)) ∧ w.grownBy w' none := by
  obtain ⟨op, t, f, k⟩ := x
  simp only at h3 h4
  simp only [inCells]
  by_cases q1 : op = 11
  · subst q1
    have hv : Hid (Sc.yes ⟨11, t, f, k⟩ a = (a == k)) := rfl
    go_enter Tryz.func82, Tryz.ntmps82
    go_wp2_with fail
    go_ret
    rw [hv.out]
    exact ⟨rfl, gb_alloc (gb_refl _ _) _⟩
  by_cases q2 : op = 12
  · subst q2
    have hv : Hid (Sc.yes ⟨12, t, f, k⟩ a = decide (k < a)) := rfl
    clear q1
    go_enter Tryz.func82, Tryz.ntmps82
    go_wp2_with fail
    go_ret
    rw [hv.out]
    exact ⟨rfl, gb_alloc (gb_refl _ _) _⟩
  by_cases q3 : op = 13
  · subst q3
    have hv : Hid (Sc.yes ⟨13, t, f, k⟩ a = decide (k ≤ a)) := rfl
    clear q1 q2
    go_enter Tryz.func82, Tryz.ntmps82
    go_wp2_with fail
    go_ret
    rw [hv.out]
    exact ⟨rfl, gb_alloc (gb_refl _ _) _⟩
  have e1 : (op == 11) = false := by simp [q1]
  have e2 : (op == 12) = false := by simp [q2]
  have e3 : (op == 13) = false := by simp [q3]
  have hv : Hid (Sc.yes ⟨op, t, f, k⟩ a = decide (0 < Sv.land a k)) := by
    unfold Hid Sc.yes; rw [if_neg q1, if_neg q2, if_neg q3]
  have hS := fun w => shared_any w a k h1 (by omega) h3 (by omega)
  clear q1 q2 q3
  go_enter Tryz.func82, Tryz.ntmps82
  go_wp2_with fail
  refine (hS _).mono ?_
  rintro e w1 ⟨rfl, rfl⟩
  clear hS
  go_wp2_with fail
  go_ret
  rw [hv.out]
  exact ⟨rfl, gb_alloc (gb_refl _ _) _⟩

set_option maxRecDepth 100000 in
set_option maxHeartbeats 2000000 in
theorem rHop_any (w : World) (x : Sc.In) (a : Int) (h1 : 0 ≤ a) (h2 : a ≤ 65535) (h3 : 0 ≤ x.k) (h4 : x.k ≤ 65535) :
    Calls Tryz.prog 68 #[.agg (inCells x), .int .i64 a] w fun e w' => e = .returned (.int .i64 (Sc.hop x a)) ∧ w.grownBy w' none := by
  have hH := fun w => rYes_any w x a h1 h2 h3 h4
  obtain ⟨op, t, f, k⟩ := x
  simp only at h3 h4
  simp only [inCells] at hH ⊢
  have hT := fun w => rTest_any w op
  by_cases q1 : op = 10
  · subst q1
    have hv : Hid (Sc.hop ⟨10, t, f, k⟩ a = k) := rfl
    clear hT hH
    go_enter Tryz.func68, Tryz.ntmps68
    go_wp2_with fail
    go_ret
    rw [hv.out]
    exact ⟨rfl, gb_alloc (gb_refl _ _) _⟩
  have e1 : (op == 10) = false := by simp [q1]
  by_cases q2 : Sc.isTest op = true
  · have hv0 : Hid (Sc.hop ⟨op, t, f, k⟩ a = if Sc.yes ⟨op, t, f, k⟩ a = true then t else f) := by
      unfold Hid Sc.hop; rw [if_neg q1, if_pos q2]
    rw [q2] at hT
    generalize Sc.yes ⟨op, t, f, k⟩ a = y at *
    clear q1 q2
    have MK := hid (fun w1 (hg : (w.alloc (.cells #[.int .i64 op, .int .i64 t, .int .i64 f, .int .i64 k] 35)).grownBy w1 none) => (Blk.new w 35 #[.int .i64 op, .int .i64 t, .int .i64 f, .int .i64 k]).keep hg (by simp))
    cases y
    · have hv : Hid (Sc.hop ⟨op, t, f, k⟩ a = f) := by unfold Hid; rw [hv0.out, if_neg (by simp)]
      clear hv0
      go_enter Tryz.func68, Tryz.ntmps68
      go_wp2_with fail
      refine (hT _).mono ?_
      rintro e w1 ⟨rfl, rfl⟩
      clear hT
      go_wp2_with fail
      refine (hH _).mono ?_
      rintro e w2 ⟨rfl, hg2⟩
      clear hH
      have B0 := MK.out w2 hg2
      have b1 := B0.cell 1
      have b2 := B0.cell 2
      simp at b1 b2
      have Hg2 := hid hg2
      clear hg2 B0
      go_wp2_with fail
      go_ret
      rw [hv.out]
      exact ⟨rfl, gb_unalloc Hg2.out⟩
    · have hv : Hid (Sc.hop ⟨op, t, f, k⟩ a = t) := by unfold Hid; rw [hv0.out, if_pos rfl]
      clear hv0
      go_enter Tryz.func68, Tryz.ntmps68
      go_wp2_with fail
      refine (hT _).mono ?_
      rintro e w1 ⟨rfl, rfl⟩
      clear hT
      go_wp2_with fail
      refine (hH _).mono ?_
      rintro e w2 ⟨rfl, hg2⟩
      clear hH
      have B0 := MK.out w2 hg2
      have b1 := B0.cell 1
      have b2 := B0.cell 2
      simp at b1 b2
      have Hg2 := hid hg2
      clear hg2 B0
      go_wp2_with fail
      go_ret
      rw [hv.out]
      exact ⟨rfl, gb_unalloc Hg2.out⟩
  · have hv : Hid (Sc.hop ⟨op, t, f, k⟩ a = 0) := by unfold Hid Sc.hop; rw [if_neg q1, if_neg q2]
    have q2' : Sc.isTest op = false := by simpa using q2
    rw [q2'] at hT
    clear q1 q2 q2' hH
    go_enter Tryz.func68, Tryz.ntmps68
    go_wp2_with fail
    refine (hT _).mono ?_
    rintro e w1 ⟨rfl, rfl⟩
    clear hT
    go_wp2_with fail
    go_ret
    rw [hv.out]
    exact ⟨rfl, gb_alloc (gb_refl _ _) _⟩

end Go.Proofs.YtpamlgdopmjooaaGreat
