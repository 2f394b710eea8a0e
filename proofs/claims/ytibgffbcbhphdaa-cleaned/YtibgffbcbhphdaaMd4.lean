/- How a code runs: the program's walks. -/
import Derived.Test.YtibgffbcbhphdaaMd2
import Derived.Deep.RegionWith
namespace Go.Proofs.Ytibgffbcbhphdaa
open Go.RowKit
set_option linter.unusedVariables false
set_option linter.unusedSimpArgs false

theorem nat_or_and (a : Nat) : ∀ b, (a ||| b) + (a &&& b) = a + b := by
  induction a using Nat.strongRecOn with
  | _ a ih =>
    intro b
    by_cases h : a = 0
    · subst h; simp
    · have i := ih (a / 2) (by omega) (b / 2)
      have d1 : (a ||| b) / 2 = a / 2 ||| b / 2 := Nat.or_div_two
      have d2 : (a &&& b) / 2 = a / 2 &&& b / 2 := Nat.and_div_two
      have m1 : (a ||| b) % 2 = (a % 2 ||| b % 2) := Nat.or_mod_two_pow (n := 1)
      have m2 : (a &&& b) % 2 = (a % 2 &&& b % 2) := Nat.and_mod_two_pow (n := 1)
      have ha : a % 2 = 0 ∨ a % 2 = 1 := by omega
      have hb : b % 2 = 0 ∨ b % 2 = 1 := by omega
      have m3 : (a ||| b) % 2 + (a &&& b) % 2 = a % 2 + b % 2 := by
        rw [m1, m2]
        rcases ha with ha | ha <;> rcases hb with hb | hb <;> rw [ha, hb] <;> rfl
      omega
theorem land_le (a b : Int) (h : 0 ≤ a) : 0 ≤ Sv.land a b ∧ Sv.land a b ≤ a := by
  unfold Sv.land
  have := Nat.and_le_left (n := a.toNat) (m := b.toNat)
  omega
theorem i64_lor (a b : Int) (h1 : 0 ≤ a) (h2 : a < 4294967296) (h3 : 0 ≤ b) (h4 : b < 4294967296) : bits .or .i64 a b = a + b - Sv.land a b := by
  obtain ⟨A, rfl⟩ := Int.eq_ofNat_of_zero_le h1
  obtain ⟨B, rfl⟩ := Int.eq_ofNat_of_zero_le h3
  unfold Sv.land
  rw [Int.toNat_natCast, Int.toNat_natCast]
  have hx : A ||| B < 2 ^ 32 := Nat.or_lt_two_pow (by omega) (by omega)
  have hy := nat_or_and A B
  show IntKind.i64.wrap ((BitVec.ofInt 64 (A : Int) ||| BitVec.ofInt 64 (B : Int)).toNat : Int) = _
  rw [BitVec.toNat_or, ofInt_u64 A (by omega), ofInt_u64 B (by omega), IntWalk.i64_in _ ⟨by omega, by omega⟩]
  omega
theorem land_mask (a : Int) (h : 0 ≤ a) : Sv.land a 65535 = a % 65536 := by
  obtain ⟨A, rfl⟩ := Int.eq_ofNat_of_zero_le h
  unfold Sv.land
  rw [Int.toNat_natCast]
  have : A &&& 2 ^ 16 - 1 = A % 2 ^ 16 := Nat.and_two_pow_sub_one_eq_mod A 16
  have e : A &&& (65535 : Int).toNat = A % 65536 := this
  rw [e]; omega
theorem lor_lt (a b : Int) (h1 : 0 ≤ a) (h2 : a ≤ 65535) (h3 : 0 ≤ b) (h4 : b ≤ 65535) : 0 ≤ a + b - Sv.land a b ∧ a + b - Sv.land a b ≤ 65535 := by
  obtain ⟨A, rfl⟩ := Int.eq_ofNat_of_zero_le h1
  obtain ⟨B, rfl⟩ := Int.eq_ofNat_of_zero_le h3
  unfold Sv.land
  rw [Int.toNat_natCast, Int.toNat_natCast]
  have hx : A ||| B < 2 ^ 16 := Nat.or_lt_two_pow (by omega) (by omega)
  have hy := nat_or_and A B
  omega
theorem becomes_rng (x : Sc.In) (a : Int) (h1 : 0 ≤ a) (h2 : a ≤ 65535) (h3 : 0 ≤ x.k) (h4 : x.k ≤ 65535) : 0 ≤ Sc.becomes x a ∧ Sc.becomes x a ≤ 65535 := by
  have l := land_le a x.k h1
  have o := lor_lt a x.k h1 h2 h3 h4
  unfold Sc.becomes
  split
  · omega
  · split
    · omega
    · split
      · split <;> omega
      · split
        · exact ⟨Int.ediv_nonneg h1 h3, Int.le_trans (Int.ediv_le_self _ h1) h2⟩
        · split
          · exact ⟨Int.ediv_nonneg h1 (Int.le_of_lt (Int.pow_pos (by omega))), Int.le_trans (Int.ediv_le_self _ h1) h2⟩
          · omega

set_option maxRecDepth 100000 in
set_option maxHeartbeats 2000000 in
theorem mReckon_any (w : World) (op t f a k : Int) (h1 : 0 ≤ a) (h2 : a ≤ 65535) (h3 : 0 ≤ k) (h4 : k ≤ 65535) (h8 : op = 8 → k ≠ 0) (h9 : op = 9 → k ≤ 15) :
    Calls Try.prog 82 #[.int .i64 op, .int .i64 a, .int .i64 k] w fun e w' => e = .returned (.int .i64 (Sc.becomes ⟨op, t, f, k⟩ a)) ∧ w' = w := by
  by_cases q5 : op = 5
  · subst q5
    have hv : Hid (Sc.becomes ⟨5, t, f, k⟩ a = Sv.land a k) := rfl
    have e := i64_land a k h1 (by omega) h3 (by omega)
    clear h8 h9
    go_enter Try.func82, Try.ntmps82
    go_wp2_with fail
    go_ret
    rw [hv.out]
    exact ⟨rfl, rfl⟩
  by_cases q6 : op = 6
  · subst q6
    have hv : Hid (Sc.becomes ⟨6, t, f, k⟩ a = a + k - Sv.land a k) := rfl
    have e := i64_lor a k h1 (by omega) h3 (by omega)
    clear h8 h9 q5
    go_enter Try.func82, Try.ntmps82
    go_wp2_with fail
    go_ret
    rw [hv.out]
    exact ⟨rfl, rfl⟩
  by_cases q7 : op = 7
  · subst q7
    have hv : Hid (Sc.becomes ⟨7, t, f, k⟩ a = (a + k) % 65536) := by
      unfold Hid; show (if 65535 < a + k then a + k - 65536 else a + k) = _; split <;> omega
    have e := i64_land (a + k) 65535 (by omega) (by omega) (by omega) (by omega)
    rw [land_mask _ (by omega)] at e
    clear h8 h9 q5 q6
    go_enter Try.func82, Try.ntmps82
    go_wp2_with fail
    go_ret
    rw [hv.out]
    exact ⟨rfl, rfl⟩
  by_cases q8 : op = 8
  · subst q8
    have hv : Hid (Sc.becomes ⟨8, t, f, k⟩ a = a / k) := rfl
    have hk := h8 rfl
    have hk0 : 0 < k := by omega
    have e8 : (k != 0) = true := by simp [hk]
    clear h8 h9 q5 q6 q7
    go_enter Try.func82, Try.ntmps82
    go_wp2_with fail
    go_ret
    rw [hv.out]
    exact ⟨rfl, rfl⟩
  by_cases q9 : op = 9
  · subst q9
    have hv : Hid (Sc.becomes ⟨9, t, f, k⟩ a = a / 2 ^ k.toNat) := rfl
    have hk := h9 rfl
    have hW := fun w => mWithin_any w k 15
    have hk2 : (0 ≤ k ∧ k ≤ 15) := ⟨h3, hk⟩
    simp only [hk2, and_self, decide_true] at hW
    clear h8 h9 q5 q6 q7 q8 hk2
    go_enter Try.func82, Try.ntmps82
    go_wp2_with fail
    refine (hW _).mono ?_
    rintro e w1 ⟨rfl, rfl⟩
    clear hW
    go_wp2_with fail
    go_ret
    rw [hv.out]
    exact ⟨rfl, rfl⟩
  have e5 : (op == 5) = false := by simp [q5]
  have e6 : (op == 6) = false := by simp [q6]
  have e7 : (op == 7) = false := by simp [q7]
  have e8 : (op == 8) = false := by simp [q8]
  have e9 : (op == 9) = false := by simp [q9]
  have hv : Hid (Sc.becomes ⟨op, t, f, k⟩ a = a) := by
    unfold Hid Sc.becomes; rw [if_neg q5, if_neg q6, if_neg q7, if_neg q8, if_neg q9]
  clear h8 h9 q5 q6 q7 q8 q9
  go_enter Try.func82, Try.ntmps82
  go_wp2_with fail
  go_ret
  rw [hv.out]
  exact ⟨rfl, rfl⟩

set_option maxRecDepth 100000 in
set_option maxHeartbeats 2000000 in
theorem mHolds_any (w : World) (op t f a k : Int) (h1 : 0 ≤ a) (h2 : a ≤ 65535) (h3 : 0 ≤ k) (h4 : k ≤ 65535) (hT : Sc.isTest op = true) :
    Calls Try.prog 83 #[.int .i64 op, .int .i64 a, .int .i64 k] w fun e w' => e = .returned (.bool (Sc.yes ⟨op, t, f, k⟩ a)) ∧ w' = w := by
  have hop : 11 ≤ op ∧ op ≤ 14 := by rw [isTest_iff] at hT; simpa using hT
  have hc : op = 11 ∨ op = 12 ∨ op = 13 ∨ op = 14 := by omega
  clear hT hop
  rcases hc with rfl | rfl | rfl | rfl
  · have hv : Hid (Sc.yes ⟨11, t, f, k⟩ a = (a == k)) := rfl
    go_enter Try.func83, Try.ntmps83
    go_wp2_with fail
    go_ret
    rw [hv.out]
    exact ⟨rfl, rfl⟩
  · have hv : Hid (Sc.yes ⟨12, t, f, k⟩ a = decide (k < a)) := rfl
    go_enter Try.func83, Try.ntmps83
    go_wp2_with fail
    go_ret
    rw [hv.out]
    exact ⟨rfl, rfl⟩
  · have hv : Hid (Sc.yes ⟨13, t, f, k⟩ a = decide (k ≤ a)) := rfl
    go_enter Try.func83, Try.ntmps83
    go_wp2_with fail
    go_ret
    rw [hv.out]
    exact ⟨rfl, rfl⟩
  · have l := land_le a k h1
    have hv : Hid (Sc.yes ⟨14, t, f, k⟩ a = (Sv.land a k != 0)) := by
      unfold Hid; show decide (0 < Sv.land a k) = _
      by_cases q : Sv.land a k = 0
      · simp [q]
      · have q2 : 0 < Sv.land a k := by omega
        simp [q, q2]
    have e := i64_land a k h1 (by omega) h3 (by omega)
    clear l
    go_enter Try.func83, Try.ntmps83
    go_wp2_with fail
    go_ret
    rw [hv.out]
    exact ⟨rfl, rfl⟩

set_option maxRecDepth 100000 in
set_option maxHeartbeats 2000000 in
theorem mHop_any (w : World) (x : Sc.In) (a : Int) (h1 : 0 ≤ a) (h2 : a ≤ 65535) (h3 : 0 ≤ x.k) (h4 : x.k ≤ 65535) :
    Calls Try.prog 71 #[.agg (inCells x), .int .i64 a] w fun e w' => e = .returned (.int .i64 (Sc.hop x a)) ∧ w.grownBy w' none := by
  obtain ⟨op, t, f, k⟩ := x
  simp only at h3 h4
  simp only [inCells]
  have hT := fun w => mIsTest_any w op
  by_cases q1 : op = 10
  · subst q1
    have hv : Hid (Sc.hop ⟨10, t, f, k⟩ a = k) := rfl
    clear hT
    go_enter Try.func71, Try.ntmps71
    go_wp2_with fail
    go_ret
    rw [hv.out]
    exact ⟨rfl, gb_alloc (gb_refl _ _) _⟩
  have e1 : (op == 10) = false := by simp [q1]
  by_cases q2 : Sc.isTest op = true
  · have hH := fun w => mHolds_any w op t f a k h1 h2 h3 h4 q2
    have hv0 : Hid (Sc.hop ⟨op, t, f, k⟩ a = if Sc.yes ⟨op, t, f, k⟩ a = true then t else f) := by
      unfold Hid Sc.hop; rw [if_neg q1, if_pos q2]
    rw [q2] at hT
    generalize Sc.yes ⟨op, t, f, k⟩ a = y at *
    clear q1 q2
    cases y
    · have hv : Hid (Sc.hop ⟨op, t, f, k⟩ a = f) := by unfold Hid; rw [hv0.out, if_neg (by simp)]
      clear hv0
      go_enter Try.func71, Try.ntmps71
      go_wp2_with fail
      refine (hT _).mono ?_
      rintro e w1 ⟨rfl, rfl⟩
      clear hT
      go_wp2_with fail
      refine (hH _).mono ?_
      rintro e w1 ⟨rfl, rfl⟩
      clear hH
      go_wp2_with fail
      go_ret
      rw [hv.out]
      exact ⟨rfl, gb_alloc (gb_refl _ _) _⟩
    · have hv : Hid (Sc.hop ⟨op, t, f, k⟩ a = t) := by unfold Hid; rw [hv0.out, if_pos rfl]
      clear hv0
      go_enter Try.func71, Try.ntmps71
      go_wp2_with fail
      refine (hT _).mono ?_
      rintro e w1 ⟨rfl, rfl⟩
      clear hT
      go_wp2_with fail
      refine (hH _).mono ?_
      rintro e w1 ⟨rfl, rfl⟩
      clear hH
      go_wp2_with fail
      go_ret
      rw [hv.out]
      exact ⟨rfl, gb_alloc (gb_refl _ _) _⟩
  · have hv : Hid (Sc.hop ⟨op, t, f, k⟩ a = 0) := by unfold Hid Sc.hop; rw [if_neg q1, if_neg q2]
    have q2' : Sc.isTest op = false := by simpa using q2
    rw [q2'] at hT
    clear q1 q2 q2'
    go_enter Try.func71, Try.ntmps71
    go_wp2_with fail
    refine (hT _).mono ?_
    rintro e w1 ⟨rfl, rfl⟩
    clear hT
    go_wp2_with fail
    go_ret
    rw [hv.out]
    exact ⟨rfl, gb_alloc (gb_refl _ _) _⟩

end Go.Proofs.Ytibgffbcbhphdaa
