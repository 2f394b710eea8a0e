/- sievekeep's codes: the makers' walks. -/
import Derived.Test.YtldongbimhngfaaKp2
import Derived.Test.YtldongbimhngfaaMd7
namespace Go.Proofs.Ytldongbimhngfaa
open Go.RowKit
set_option linter.unusedVariables false
set_option linter.unusedSimpArgs false

/-- the number i of a list -/
def nzc (ll : Nat) (z : Nat → Int) (i : Nat) : Int := if i < ll then z i else 0
theorem nzc_bd {w : World} {B : Nat} {a : Option Addr} {ll : Nat} {z : Nat → Int} (h : RawRow w B a ll z) (i : Nat) : -9223372036854775808 ≤ nzc ll z i ∧ nzc ll z i ≤ 9223372036854775807 := by
  unfold nzc
  split
  · next hi => obtain ⟨_, _, _, _, _, h4, h5⟩ := h i hi; exact ⟨h4, h5⟩
  · omega
set_option maxRecDepth 100000 in
set_option maxHeartbeats 1000000 in
theorem numC_any (w : World) (la : Option Addr) (ll lc : Nat) (z : Nat → Int) (B : Nat) (a : Int) (hR : RawRow w B la ll z) (hll : ll ≤ maxLen) (h0 : 0 ≤ a) (h1 : a ≤ 100000) :
    Calls Try.prog 21 #[.slice la ll lc, .int .i64 a] w fun e w' => e = .returned (.int .i64 (nzc ll z a.toNat)) ∧ w' = w := by
  obtain ⟨i, rfl⟩ := Int.eq_ofNat_of_zero_le h0
  rw [Int.toNat_natCast]
  unfold maxLen at hll
  have d0 : decide ((i : Int) < 0) = false := by simp
  by_cases hlt : i < ll
  · obtain ⟨b, off, rfl, hb, hc, _, _⟩ := hR i hlt
    have d1 : decide ((ll : Int) ≤ (i : Int)) = false := by simp; omega
    have hv : Hid (nzc ll z i = z i) := by unfold Hid nzc; rw [if_pos hlt]
    clear hR
    generalize z i = zz at *
    go_enter Try.func21, Try.ntmps21
    go_wp2_with fail
    go_ret
    rw [hv.out]
    exact ⟨rfl, rfl⟩
  · have d1 : decide ((ll : Int) ≤ (i : Int)) = true := by simp; omega
    have hv : Hid (nzc ll z i = 0) := by unfold Hid nzc; rw [if_neg hlt]
    clear hR
    go_enter Try.func21, Try.ntmps21
    go_wp2_with fail
    go_ret
    rw [hv.out]
    exact ⟨rfl, rfl⟩

set_option maxHeartbeats 1000000 in
theorem kIsTest_any (w : World) (op : Int) :
    Calls Try.prog 47 #[.int .i64 op] w fun e w' => e = .returned (.bool (Sc.isTest op)) ∧ w' = w := by
  have hv := hid (isTest_iff op)
  by_cases h1 : 11 ≤ op
  · by_cases h2 : op ≤ 14
    · have hv' : Hid (Sc.isTest op = true) := by unfold Hid; rw [hv.out]; simp [h1, h2]
      clear hv
      go_enter Try.func47, Try.ntmps47
      go_wp2
      go_ret
      rw [hv'.out]
      exact ⟨by simp [h1, h2], rfl⟩
    · have hv' : Hid (Sc.isTest op = false) := by unfold Hid; rw [hv.out]; simp [h1, h2]
      clear hv
      go_enter Try.func47, Try.ntmps47
      go_wp2
      go_ret
      rw [hv'.out]
      exact ⟨by simp [h1, h2], rfl⟩
  · have hv' : Hid (Sc.isTest op = false) := by unfold Hid; rw [hv.out]; simp [h1]
    clear hv
    go_enter Try.func47, Try.ntmps47
    go_wp2
    go_ret
    rw [hv'.out]
    exact ⟨by simp [h1], rfl⟩

def opnd (op c : Int) : Int :=
  if op = 1 then 2 * pk c 10 else if op = 3 ∨ op = 4 then pk c 4 else if op = 8 then 1 + pk c 65535 else if op = 9 then pk c 16 else if op = 16 then 0 else pk c 65536
set_option maxRecDepth 100000 in
set_option maxHeartbeats 1000000 in
theorem operand_any (w : World) (op c : Int) (h0 : -9223372036854775808 ≤ c) (h1 : c ≤ 9223372036854775807) :
    Calls Try.prog 53 #[.int .i64 op, .int .i64 c] w fun e w' => e = .returned (.int .i64 (opnd op c)) ∧ w' = w := by
  by_cases q1 : op = 1
  · subst q1
    have hv : Hid (opnd 1 c = 2 * pk c 10) := by unfold Hid opnd; rw [if_pos rfl]
    have hP := fun w => pick_any w c 10 h0 h1 (by omega) (by omega)
    have hr := pk_range c 10 (by omega)
    generalize pk c 10 = y at *
    have r0 := hr.1
    have r1 := hr.2
    clear hr
    go_enter Try.func53, Try.ntmps53
    go_wp2_with fail
    refine (hP _).mono ?_
    rintro e w1 ⟨rfl, rfl⟩
    clear hP
    go_wp2_with fail
    go_ret
    rw [hv.out]
    exact ⟨rfl, rfl⟩
  by_cases q3 : op = 3
  · subst q3
    have hv : Hid (opnd 3 c = pk c 4) := by unfold Hid opnd; rw [if_neg (by decide), if_pos (Or.inl rfl)]
    clear q1
    have hP := fun w => pick_any w c 4 h0 h1 (by omega) (by omega)
    have hr := pk_range c 4 (by omega)
    generalize pk c 4 = y at *
    have r0 := hr.1
    have r1 := hr.2
    clear hr
    go_enter Try.func53, Try.ntmps53
    go_wp2_with fail
    refine (hP _).mono ?_
    rintro e w1 ⟨rfl, rfl⟩
    clear hP
    go_wp2_with fail
    go_ret
    rw [hv.out]
    exact ⟨rfl, rfl⟩
  by_cases q4 : op = 4
  · subst q4
    have hv : Hid (opnd 4 c = pk c 4) := by unfold Hid opnd; rw [if_neg (by decide), if_pos (Or.inr rfl)]
    clear q1 q3
    have hP := fun w => pick_any w c 4 h0 h1 (by omega) (by omega)
    have hr := pk_range c 4 (by omega)
    generalize pk c 4 = y at *
    have r0 := hr.1
    have r1 := hr.2
    clear hr
    go_enter Try.func53, Try.ntmps53
    go_wp2_with fail
    refine (hP _).mono ?_
    rintro e w1 ⟨rfl, rfl⟩
    clear hP
    go_wp2_with fail
    go_ret
    rw [hv.out]
    exact ⟨rfl, rfl⟩
  by_cases q8 : op = 8
  · subst q8
    have hv : Hid (opnd 8 c = 1 + pk c 65535) := by unfold Hid opnd; rw [if_neg (by decide), if_neg (by decide), if_pos rfl]
    clear q1 q3 q4
    have hP := fun w => pick_any w c 65535 h0 h1 (by omega) (by omega)
    have hr := pk_range c 65535 (by omega)
    generalize pk c 65535 = y at *
    have r0 := hr.1
    have r1 := hr.2
    clear hr
    go_enter Try.func53, Try.ntmps53
    go_wp2_with fail
    refine (hP _).mono ?_
    rintro e w1 ⟨rfl, rfl⟩
    clear hP
    go_wp2_with fail
    go_ret
    rw [hv.out]
    exact ⟨rfl, rfl⟩
  by_cases q9 : op = 9
  · subst q9
    have hv : Hid (opnd 9 c = pk c 16) := by unfold Hid opnd; rw [if_neg (by decide), if_neg (by decide), if_neg (by decide), if_pos rfl]
    clear q1 q3 q4 q8
    have hP := fun w => pick_any w c 16 h0 h1 (by omega) (by omega)
    have hr := pk_range c 16 (by omega)
    generalize pk c 16 = y at *
    have r0 := hr.1
    have r1 := hr.2
    clear hr
    go_enter Try.func53, Try.ntmps53
    go_wp2_with fail
    refine (hP _).mono ?_
    rintro e w1 ⟨rfl, rfl⟩
    clear hP
    go_wp2_with fail
    go_ret
    rw [hv.out]
    exact ⟨rfl, rfl⟩
  by_cases q16 : op = 16
  · subst q16
    have hv : Hid (opnd 16 c = 0) := by unfold Hid opnd; rw [if_neg (by decide), if_neg (by decide), if_neg (by decide), if_neg (by decide), if_pos rfl]
    clear q1 q3 q4 q8 q9
    go_enter Try.func53, Try.ntmps53
    go_wp2_with fail
    go_ret
    rw [hv.out]
    exact ⟨rfl, rfl⟩
  have e1 : (op == 1) = false := by simp [q1]
  have e3 : (op == 3) = false := by simp [q3]
  have e4 : (op == 4) = false := by simp [q4]
  have e8 : (op == 8) = false := by simp [q8]
  have e9 : (op == 9) = false := by simp [q9]
  have e16 : (op == 16) = false := by simp [q16]
  have hv : Hid (opnd op c = pk c 65536) := by unfold Hid opnd; rw [if_neg q1, if_neg (by simp [q3, q4]), if_neg q8, if_neg q9, if_neg q16]
  clear q1 q3 q4 q8 q9 q16
  have hP := fun w => pick_any w c 65536 h0 h1 (by omega) (by omega)
  have hr := pk_range c 65536 (by omega)
  generalize pk c 65536 = y at *
  clear hr
  go_enter Try.func53, Try.ntmps53
  go_wp2_with fail
  refine (hP _).mono ?_
  rintro e w1 ⟨rfl, rfl⟩
  clear hP
  go_wp2_with fail
  go_ret
  rw [hv.out]
  exact ⟨rfl, rfl⟩

def mkOp (n : Nat) (i : Nat) (c : Int) : Int := if n = i + 1 then 15 + pk c 2 else 1 + pk c 16
def most16 (left : Nat) : Int := if 16 < left then 16 else left
/-- the instruction i of n -/
def mkIn (ll : Nat) (z : Nat → Int) (n i : Nat) : Sc.In :=
  ⟨mkOp n i (nzc ll z (4 * i)),
   if Sc.isTest (mkOp n i (nzc ll z (4 * i))) = true then pk (nzc ll z (4 * i + 2)) (most16 (n - i - 1)) else 0,
   if Sc.isTest (mkOp n i (nzc ll z (4 * i))) = true then pk (nzc ll z (4 * i + 3)) (most16 (n - i - 1)) else 0,
   if mkOp n i (nzc ll z (4 * i)) = 10 then pk (nzc ll z (4 * i + 1)) ((n - i - 1 : Nat) : Int) else opnd (mkOp n i (nzc ll z (4 * i))) (nzc ll z (4 * i + 1))⟩
theorem mkOp_rng (n i : Nat) (c : Int) : 1 ≤ mkOp n i c ∧ mkOp n i c ≤ 16 ∧ (n = i + 1 → 15 ≤ mkOp n i c) := by
  have h1 := pk_range c 2 (by omega)
  have h2 := pk_range c 16 (by omega)
  unfold mkOp
  split <;> omega
theorem opnd_rng (op c : Int) : 0 ≤ opnd op c ∧ opnd op c ≤ 65535 := by
  have h1 := pk_range c 10 (by omega)
  have h2 := pk_range c 4 (by omega)
  have h3 := pk_range c 65535 (by omega)
  have h4 := pk_range c 16 (by omega)
  have h5 := pk_range c 65536 (by omega)
  unfold opnd
  repeat' split
  all_goals omega
theorem mkIn_rng (ll : Nat) (z : Nat → Int) (n i : Nat) (hi : i < n) (hn : n ≤ 1024) : InRng (mkIn ll z n i) := by
  have ho := mkOp_rng n i (nzc ll z (4 * i))
  have hk := opnd_rng (mkOp n i (nzc ll z (4 * i))) (nzc ll z (4 * i + 1))
  have hti := isTest_iff (mkOp n i (nzc ll z (4 * i)))
  unfold InRng mkIn
  simp only
  generalize mkOp n i (nzc ll z (4 * i)) = op at *
  have hm : Sc.isTest op = true → 0 < most16 (n - i - 1) ∧ most16 (n - i - 1) ≤ 16 := by
    intro q
    rw [q] at hti
    have : 11 ≤ op ∧ op ≤ 14 := by simpa using hti.symm
    unfold most16; split <;> omega
  have h1 : Sc.isTest op = true → 0 ≤ pk (nzc ll z (4 * i + 2)) (most16 (n - i - 1)) ∧ pk (nzc ll z (4 * i + 2)) (most16 (n - i - 1)) < 16 := by
    intro q; have := pk_range (nzc ll z (4 * i + 2)) _ (hm q).1; have := (hm q).2; omega
  have h2 : Sc.isTest op = true → 0 ≤ pk (nzc ll z (4 * i + 3)) (most16 (n - i - 1)) ∧ pk (nzc ll z (4 * i + 3)) (most16 (n - i - 1)) < 16 := by
    intro q; have := pk_range (nzc ll z (4 * i + 3)) _ (hm q).1; have := (hm q).2; omega
  have h3 : op = 10 → 0 ≤ pk (nzc ll z (4 * i + 1)) ((n - i - 1 : Nat) : Int) ∧ pk (nzc ll z (4 * i + 1)) ((n - i - 1 : Nat) : Int) < 1024 := by
    intro q; have := pk_range (nzc ll z (4 * i + 1)) ((n - i - 1 : Nat) : Int) (by omega); omega
  refine ⟨by omega, by omega, ?_, ?_, ?_, ?_, ?_, ?_⟩
  · split
    · next q => exact (h1 q).1
    · omega
  · split
    · next q => have := h1 q; omega
    · omega
  · split
    · next q => exact (h2 q).1
    · omega
  · split
    · next q => have := h2 q; omega
    · omega
  · split
    · next q => exact (h3 q).1
    · omega
  · split
    · next q => have := h3 q; omega
    · omega
end Go.Proofs.Ytldongbimhngfaa
