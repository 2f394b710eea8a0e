import Derived.Test.YtldongbimhngfaaMd2
import Derived.Deep.RegionWith
import Derived.Test.YtldongbimhngfaaMd3
/- How a code runs: the program's walks. -/
namespace Go.Proofs.Ytldongbimhngfaa
open Go.RowKit
set_option linter.unusedVariables false
set_option linter.unusedSimpArgs false

theorem nat_or_and (a : Nat) : ∀ b, (a ||| b) + (a &&& b) = a + b := by
  induction a using Nat.strongRecOn with
  | _ a ih =>
    intro b
    by_cases h : a = 0
    · subst h; simp
    · have i := ih (a / 2) (by omega) (b / 2)
      have d1 : (a ||| b) / 2 = a / 2 ||| b / 2 := Nat.or_div_two
      have d2 : (a &&& b) / 2 = a / 2 &&& b / 2 := Nat.and_div_two
      have m1 : (a ||| b) % 2 = (a % 2 ||| b % 2) := Nat.or_mod_two_pow (n := 1)
      have m2 : (a &&& b) % 2 = (a % 2 &&& b % 2) := Nat.and_mod_two_pow (n := 1)
      have ha : a % 2 = 0 ∨ a % 2 = 1 := by omega
      have hb : b % 2 = 0 ∨ b % 2 = 1 := by omega
      have m3 : (a ||| b) % 2 + (a &&& b) % 2 = a % 2 + b % 2 := by
        rw [m1, m2]
        rcases ha with ha | ha <;> rcases hb with hb | hb <;> rw [ha, hb] <;> rfl
      omega
theorem land_le (a b : Int) (h : 0 ≤ a) : 0 ≤ Sv.land a b ∧ Sv.land a b ≤ a := by
  unfold Sv.land
  have := Nat.and_le_left (n := a.toNat) (m := b.toNat)
  omega
theorem i64_lor (a b : Int) (h1 : 0 ≤ a) (h2 : a < 4294967296) (h3 : 0 ≤ b) (h4 : b < 4294967296) : bits .or .i64 a b = a + b - Sv.land a b := by
  obtain ⟨A, rfl⟩ := Int.eq_ofNat_of_zero_le h1
  obtain ⟨B, rfl⟩ := Int.eq_ofNat_of_zero_le h3
  unfold Sv.land
  rw [Int.toNat_natCast, Int.toNat_natCast]
  have hx : A ||| B < 2 ^ 32 := Nat.or_lt_two_pow (by omega) (by omega)
  have hy := nat_or_and A B
  show IntKind.i64.wrap ((BitVec.ofInt 64 (A : Int) ||| BitVec.ofInt 64 (B : Int)).toNat : Int) = _
  rw [BitVec.toNat_or, ofInt_u64 A (by omega), ofInt_u64 B (by omega), IntWalk.i64_in _ ⟨by omega, by omega⟩]
  omega
theorem land_mask (a : Int) (h : 0 ≤ a) : Sv.land a 65535 = a % 65536 := by
  obtain ⟨A, rfl⟩ := Int.eq_ofNat_of_zero_le h
  unfold Sv.land
  rw [Int.toNat_natCast]
  have : A &&& 2 ^ 16 - 1 = A % 2 ^ 16 := Nat.and_two_pow_sub_one_eq_mod A 16
  have e : A &&& (65535 : Int).toNat = A % 65536 := this
  rw [e]; omega
theorem lor_lt (a b : Int) (h1 : 0 ≤ a) (h2 : a ≤ 65535) (h3 : 0 ≤ b) (h4 : b ≤ 65535) : 0 ≤ a + b - Sv.land a b ∧ a + b - Sv.land a b ≤ 65535 := by
  obtain ⟨A, rfl⟩ := Int.eq_ofNat_of_zero_le h1
  obtain ⟨B, rfl⟩ := Int.eq_ofNat_of_zero_le h3
  unfold Sv.land
  rw [Int.toNat_natCast, Int.toNat_natCast]
  have hx : A ||| B < 2 ^ 16 := Nat.or_lt_two_pow (by omega) (by omega)
  have hy := nat_or_and A B
  omega
theorem becomes_rng (x : Sc.In) (a : Int) (h1 : 0 ≤ a) (h2 : a ≤ 65535) (h3 : 0 ≤ x.k) (h4 : x.k ≤ 65535) : 0 ≤ Sc.becomes x a ∧ Sc.becomes x a ≤ 65535 := by
  have l := land_le a x.k h1
  have o := lor_lt a x.k h1 h2 h3 h4
  unfold Sc.becomes
  split
  · omega
  · split
    · omega
    · split
      · split <;> omega
      · split
        · exact ⟨Int.ediv_nonneg h1 h3, Int.le_trans (Int.ediv_le_self _ h1) h2⟩
        · split
          · exact ⟨Int.ediv_nonneg h1 (Int.le_of_lt (Int.pow_pos (by omega))), Int.le_trans (Int.ediv_le_self _ h1) h2⟩
          · omega

set_option maxRecDepth 100000 in
set_option maxHeartbeats 2000000 in
theorem mReckon_any (w : World) (op t f a k : Int) (h1 : 0 ≤ a) (h2 : a ≤ 65535) (h3 : 0 ≤ k) (h4 : k ≤ 65535) (h8 : op = 8 → k ≠ 0) (h9 : op = 9 → k ≤ 15) :
    Calls Try.prog 95 #[.int .i64 op, .int .i64 a, .int .i64 k] w fun e w' => e = .returned (.int .i64 (Sc.becomes ⟨op, t, f, k⟩ a)) ∧ w' = w := by
  by_cases q5 : op = 5
  · subst q5
    have hv : Hid (Sc.becomes ⟨5, t, f, k⟩ a = Sv.land a k) := rfl
    have e := i64_land a k h1 (by omega) h3 (by omega)
    clear h8 h9
    go_enter Try.func95, Try.ntmps95
    go_wp2_with fail
    go_ret
    rw [hv.out]
    exact ⟨rfl, rfl⟩
  by_cases q6 : op = 6
  · subst q6
    have hv : Hid (Sc.becomes ⟨6, t, f, k⟩ a = a + k - Sv.land a k) := rfl
    have e := i64_lor a k h1 (by omega) h3 (by omega)
    clear h8 h9 q5
    go_enter Try.func95, Try.ntmps95
    go_wp2_with fail
    go_ret
    rw [hv.out]
    exact ⟨rfl, rfl⟩
  by_cases q7 : op = 7
  · subst q7
    have hv : Hid (Sc.becomes ⟨7, t, f, k⟩ a = (a + k) % 65536) := by
      unfold Hid; show (if 65535 < a + k then a + k - 65536 else a + k) = _; split <;> omega
    have e := i64_land (a + k) 65535 (by omega) (by omega) (by omega) (by omega)
    rw [land_mask _ (by omega)] at e
    clear h8 h9 q5 q6
    go_enter Try.func95, Try.ntmps95
    go_wp2_with fail
    go_ret
    rw [hv.out]
    exact ⟨rfl, rfl⟩
  by_cases q8 : op = 8
  · subst q8
    have hv : Hid (Sc.becomes ⟨8, t, f, k⟩ a = a / k) := rfl
    have hk := h8 rfl
    have hk0 : 0 < k := by omega
    have e8 : (k != 0) = true := by simp [hk]
    clear h8 h9 q5 q6 q7
    go_enter Try.func95, Try.ntmps95
    go_wp2_with fail
    go_ret
    rw [hv.out]
    exact ⟨rfl, rfl⟩
  by_cases q9 : op = 9
  · subst q9
    have hv : Hid (Sc.becomes ⟨9, t, f, k⟩ a = a / 2 ^ k.toNat) := rfl
    have hk := h9 rfl
    have hW := fun w => mWithin_any w k 15
    have hk2 : (0 ≤ k ∧ k ≤ 15) := ⟨h3, hk⟩
    simp only [hk2, and_self, decide_true] at hW
    clear h8 h9 q5 q6 q7 q8 hk2
    go_enter Try.func95, Try.ntmps95
    go_wp2_with fail
    refine (hW _).mono ?_
    rintro e w1 ⟨rfl, rfl⟩
    clear hW
    go_wp2_with fail
    go_ret
    rw [hv.out]
    exact ⟨rfl, rfl⟩
  have e5 : (op == 5) = false := by simp [q5]
  have e6 : (op == 6) = false := by simp [q6]
  have e7 : (op == 7) = false := by simp [q7]
  have e8 : (op == 8) = false := by simp [q8]
  have e9 : (op == 9) = false := by simp [q9]
  have hv : Hid (Sc.becomes ⟨op, t, f, k⟩ a = a) := by
    unfold Hid Sc.becomes; rw [if_neg q5, if_neg q6, if_neg q7, if_neg q8, if_neg q9]
  clear h8 h9 q5 q6 q7 q8 q9
  go_enter Try.func95, Try.ntmps95
  go_wp2_with fail
  go_ret
  rw [hv.out]
  exact ⟨rfl, rfl⟩

set_option maxRecDepth 100000 in
set_option maxHeartbeats 2000000 in
theorem mHolds_any (w : World) (op t f a k : Int) (h1 : 0 ≤ a) (h2 : a ≤ 65535) (h3 : 0 ≤ k) (h4 : k ≤ 65535) (hT : Sc.isTest op = true) :
    Calls Try.prog 96 #[.int .i64 op, .int .i64 a, .int .i64 k] w fun e w' => e = .returned (.bool (Sc.yes ⟨op, t, f, k⟩ a)) ∧ w' = w := by
  have hop : 11 ≤ op ∧ op ≤ 14 := by rw [isTest_iff] at hT; simpa using hT
  have hc : op = 11 ∨ op = 12 ∨ op = 13 ∨ op = 14 := by omega
  clear hT hop
  rcases hc with rfl | rfl | rfl | rfl
  · have hv : Hid (Sc.yes ⟨11, t, f, k⟩ a = (a == k)) := rfl
    go_enter Try.func96, Try.ntmps96
    go_wp2_with fail
    go_ret
    rw [hv.out]
    exact ⟨rfl, rfl⟩
  · have hv : Hid (Sc.yes ⟨12, t, f, k⟩ a = decide (k < a)) := rfl
    go_enter Try.func96, Try.ntmps96
    go_wp2_with fail
    go_ret
    rw [hv.out]
    exact ⟨rfl, rfl⟩
  · have hv : Hid (Sc.yes ⟨13, t, f, k⟩ a = decide (k ≤ a)) := rfl
    go_enter Try.func96, Try.ntmps96
    go_wp2_with fail
    go_ret
    rw [hv.out]
    exact ⟨rfl, rfl⟩
  · have l := land_le a k h1
    have hv : Hid (Sc.yes ⟨14, t, f, k⟩ a = (Sv.land a k != 0)) := by
      unfold Hid; show decide (0 < Sv.land a k) = _
      by_cases q : Sv.land a k = 0
      · simp [q]
      · have q2 : 0 < Sv.land a k := by omega
        simp [q, q2]
    have e := i64_land a k h1 (by omega) h3 (by omega)
    clear l
    go_enter Try.func96, Try.ntmps96
    go_wp2_with fail
    go_ret
    rw [hv.out]
    exact ⟨rfl, rfl⟩

set_option maxRecDepth 100000 in
set_option maxHeartbeats 2000000 in
theorem mHop_any (w : World) (x : Sc.In) (a : Int) (h1 : 0 ≤ a) (h2 : a ≤ 65535) (h3 : 0 ≤ x.k) (h4 : x.k ≤ 65535) :
    Calls Try.prog 80 #[.agg (inCells x), .int .i64 a] w fun e w' => e = .returned (.int .i64 (Sc.hop x a)) ∧ w.grownBy w' none := by
  obtain ⟨op, t, f, k⟩ := x
  simp only at h3 h4
  simp only [inCells]
  have hT := fun w => mIsTest_any w op
  by_cases q1 : op = 10
  · subst q1
    have hv : Hid (Sc.hop ⟨10, t, f, k⟩ a = k) := rfl
    clear hT
    go_enter Try.func80, Try.ntmps80
    go_wp2_with fail
    go_ret
    rw [hv.out]
    exact ⟨rfl, gb_alloc (gb_refl _ _) _⟩
  have e1 : (op == 10) = false := by simp [q1]
  by_cases q2 : Sc.isTest op = true
  · have hH := fun w => mHolds_any w op t f a k h1 h2 h3 h4 q2
    have hv0 : Hid (Sc.hop ⟨op, t, f, k⟩ a = if Sc.yes ⟨op, t, f, k⟩ a = true then t else f) := by
      unfold Hid Sc.hop; rw [if_neg q1, if_pos q2]
    rw [q2] at hT
    generalize Sc.yes ⟨op, t, f, k⟩ a = y at *
    clear q1 q2
    cases y
    · have hv : Hid (Sc.hop ⟨op, t, f, k⟩ a = f) := by unfold Hid; rw [hv0.out, if_neg (by simp)]
      clear hv0
      go_enter Try.func80, Try.ntmps80
      go_wp2_with fail
      refine (hT _).mono ?_
      rintro e w1 ⟨rfl, rfl⟩
      clear hT
      go_wp2_with fail
      refine (hH _).mono ?_
      rintro e w1 ⟨rfl, rfl⟩
      clear hH
      go_wp2_with fail
      go_ret
      rw [hv.out]
      exact ⟨rfl, gb_alloc (gb_refl _ _) _⟩
    · have hv : Hid (Sc.hop ⟨op, t, f, k⟩ a = t) := by unfold Hid; rw [hv0.out, if_pos rfl]
      clear hv0
      go_enter Try.func80, Try.ntmps80
      go_wp2_with fail
      refine (hT _).mono ?_
      rintro e w1 ⟨rfl, rfl⟩
      clear hT
      go_wp2_with fail
      refine (hH _).mono ?_
      rintro e w1 ⟨rfl, rfl⟩
      clear hH
      go_wp2_with fail
      go_ret
      rw [hv.out]
      exact ⟨rfl, gb_alloc (gb_refl _ _) _⟩
  · have hv : Hid (Sc.hop ⟨op, t, f, k⟩ a = 0) := by unfold Hid Sc.hop; rw [if_neg q1, if_neg q2]
    have q2' : Sc.isTest op = false := by simpa using q2
    rw [q2'] at hT
    clear q1 q2 q2'
    go_enter Try.func80, Try.ntmps80
    go_wp2_with fail
    refine (hT _).mono ?_
    rintro e w1 ⟨rfl, rfl⟩
    clear hT
    go_wp2_with fail
    go_ret
    rw [hv.out]
    exact ⟨rfl, gb_alloc (gb_refl _ _) _⟩

end Go.Proofs.Ytldongbimhngfaa
/- One step of a run: the program's walk. -/
namespace Go.Proofs.Ytldongbimhngfaa
open Go.RowKit
set_option linter.unusedVariables false
set_option linter.unusedSimpArgs false

def McOk (m : Sc.Mc) : Prop := 0 ≤ m.a ∧ m.a ≤ 65535 ∧ 0 ≤ m.c0 ∧ m.c0 ≤ 65535 ∧ 0 ≤ m.c1 ∧ m.c1 ≤ 65535 ∧ 0 ≤ m.c2 ∧ m.c2 ≤ 65535 ∧ 0 ≤ m.c3 ∧ m.c3 ≤ 65535
/-- an instruction that a sound code may do -/
def DoOk (x : Sc.In) : Prop := InRng x ∧ (x.op = 1 → x.k % 2 = 0 ∧ x.k ≤ 18) ∧ (x.op = 3 ∨ x.op = 4 → x.k ≤ 3) ∧ (x.op = 8 → x.k ≠ 0) ∧ (x.op = 9 → x.k ≤ 15)
theorem doOk_of (x : Sc.In) (left : Int) (hx : InRng x) (h : Sc.wrongE x left = 0) : DoOk x := by
  have hm : Sc.mayB x = true := by
    unfold Sc.wrongE at h
    split at h
    · cases h
    · split at h
      · cases h
      · split at h
        · cases h
        · next q => simpa using q
  unfold Sc.mayB at hm
  obtain ⟨op, t, f, k⟩ := x
  simp only at hm
  split at hm
  · cases hm
  · refine ⟨hx, ?_, ?_, ?_, ?_⟩ <;> intro q <;> simp only at q ⊢
    · rw [if_pos q] at hm; simpa using hm
    · rw [if_neg (by omega), if_pos q] at hm; simpa using hm
    · rw [if_neg (by omega), if_neg (by omega), if_pos q] at hm; have : 0 < k := by simpa using hm
      omega
    · rw [if_neg (by omega), if_neg (by omega), if_neg (by omega), if_pos q] at hm; simpa using hm
def mcCells (m : Sc.Mc) : Array Value := #[.int .i64 m.a, .int .i64 m.c0, .int .i64 m.c1, .int .i64 m.c2, .int .i64 m.c3]
def StAt (w : World) (sb : Nat) (m : Sc.Mc) : Prop := Blk w sb 116 (mcCells m)
theorem cellGet_rng (m : Sc.Mc) (k : Int) (h : McOk m) : 0 ≤ Sc.cellGet m k ∧ Sc.cellGet m k ≤ 65535 := by
  obtain ⟨h0, h1, h2, h3, h4, h5, h6, h7, h8, h9⟩ := h
  unfold Sc.cellGet
  repeat' split
  all_goals omega
theorem stepM_rng (r : ByteArray) (x : Sc.In) (m : Sc.Mc) (hr : r.size = 20) (hx : DoOk x) (h : McOk m) : McOk (Sc.stepM r x m) := by
  have hc := cellGet_rng m x.k h
  obtain ⟨h0, h1, h2, h3, h4, h5, h6, h7, h8, h9⟩ := h
  obtain ⟨⟨x1, x2, x3, x4, x5, x6, x7, x8⟩, y1, y2, y3, y4⟩ := hx
  have hb := becomes_rng x m.a h0 h1 x7 x8
  unfold Sc.stepM
  split
  · next q =>
    have := wordAt_range hr x7 (y1 q).2
    exact ⟨this.1, by simp only; omega, h2, h3, h4, h5, h6, h7, h8, h9⟩
  · split
    · exact ⟨x7, x8, h2, h3, h4, h5, h6, h7, h8, h9⟩
    · split
      · exact ⟨hc.1, hc.2, h2, h3, h4, h5, h6, h7, h8, h9⟩
      · split
        · unfold Sc.cellSet
          repeat' split
          · exact ⟨h0, h1, h0, h1, h4, h5, h6, h7, h8, h9⟩
          · exact ⟨h0, h1, h2, h3, h0, h1, h6, h7, h8, h9⟩
          · exact ⟨h0, h1, h2, h3, h4, h5, h0, h1, h8, h9⟩
          · exact ⟨h0, h1, h2, h3, h4, h5, h6, h7, h0, h1⟩
        · exact ⟨hb.1, hb.2, h2, h3, h4, h5, h6, h7, h8, h9⟩

set_option maxRecDepth 100000 in
set_option maxHeartbeats 4000000 in
theorem mDo_any (w : World) (sb : Nat) (m : Sc.Mc) (x : Sc.In) (r : ByteArray) (hB : StAt w sb m) (hm : McOk m) (hx : DoOk x) (hr : r.size = 20) :
    Calls Try.prog 79 #[.pointer (some ⟨sb, 0, none⟩), .agg (inCells x), .string r] w fun e w' => e = .returned (.tuple #[]) ∧ StAt w' sb (Sc.stepM r x m) ∧ w.grownBy w' (some sb) := by
  obtain ⟨a, c0, c1, c2, c3⟩ := m
  obtain ⟨op, t, f, k⟩ := x
  obtain ⟨m0, m1, -, -, -, -, -, -, -, -⟩ := hm
  obtain ⟨⟨x1, x2, x3, x4, x5, x6, x7, x8⟩, y1, y2, y3, y4⟩ := hx
  simp only at m0 m1 x1 x2 x7 x8 y1 y2 y3 y4
  have HB := hid hB
  unfold StAt at hB
  simp only [mcCells] at hB
  have b0 := hB.cell 0
  have b1 := hB.cell 1
  have b2 := hB.cell 2
  have b3 := hB.cell 3
  have b4 := hB.cell 4
  have bf := hB.fz
  have hlt := hB.lt
  have hne : w.heap.size ≠ sb := by omega
  simp at b0 b1 b2 b3 b4
  simp only [inCells]
  clear x3 x4 x5 x6 hB
  by_cases q1 : op = 1
  · subst q1
    have hA := fun w => at_any w r k hr x7 (y1 rfl).2
    have hv : Hid (Sc.stepM r ⟨1, t, f, k⟩ ⟨a, c0, c1, c2, c3⟩ = ⟨Sv.wordAt r k, c0, c1, c2, c3⟩) := rfl
    clear y1 y2 y3 y4
    go_enter Try.func79, Try.ntmps79
    go_wp2_with fail
    refine (hA _).mono ?_
    rintro e w1 ⟨rfl, n, rfl⟩
    clear hA
    go_wp2_with fail
    go_end0
    rw [hv.out]
    exact ⟨rfl, Blk.set (Blk.alloc HB.out _) 0 _, gb_set (gb_drewN (gb_alloc (gb_refl _ _) _) _) _ _⟩
  by_cases q2 : op = 2
  · subst q2
    have hv : Hid (Sc.stepM r ⟨2, t, f, k⟩ ⟨a, c0, c1, c2, c3⟩ = ⟨k, c0, c1, c2, c3⟩) := rfl
    clear y1 y2 y3 y4
    go_enter Try.func79, Try.ntmps79
    go_wp2_with fail
    go_end0
    rw [hv.out]
    exact ⟨rfl, Blk.alloc (Blk.set HB.out 0 _) _, gb_alloc (gb_set (gb_refl _ _) _ _) _⟩
  have hW := fun w => mWithin_any w k 3
  by_cases q3 : op = 3
  · subst q3
    have hk3 := y2 (Or.inl rfl)
    have hk2 : (0 ≤ k ∧ k ≤ 3) := ⟨x7, hk3⟩
    simp only [hk2, and_self, decide_true] at hW
    clear y1 y2 y3 y4
    have hkc : k = 0 ∨ k = 1 ∨ k = 2 ∨ k = 3 := by omega
    clear hk2 hk3 x7 x8
    rcases hkc with rfl | rfl | rfl | rfl
    · have hv : Hid (Sc.stepM r ⟨3, t, f, 0⟩ ⟨a, c0, c1, c2, c3⟩ = ⟨c0, c0, c1, c2, c3⟩) := rfl
      go_enter Try.func79, Try.ntmps79
      go_wp2_with fail
      refine (hW _).mono ?_
      rintro e w1 ⟨rfl, rfl⟩
      clear hW
      go_wp2_with fail
      go_region
      go_wp2_with fail
      go_end0
      rw [hv.out]
      exact ⟨rfl, Blk.drew (Blk.alloc (Blk.set HB.out 0 _) _), gb_drew (gb_alloc (gb_set (gb_refl _ _) _ _) _)⟩
    · have hv : Hid (Sc.stepM r ⟨3, t, f, 1⟩ ⟨a, c0, c1, c2, c3⟩ = ⟨c1, c0, c1, c2, c3⟩) := rfl
      go_enter Try.func79, Try.ntmps79
      go_wp2_with fail
      refine (hW _).mono ?_
      rintro e w1 ⟨rfl, rfl⟩
      clear hW
      go_wp2_with fail
      go_region
      go_wp2_with fail
      go_end0
      rw [hv.out]
      exact ⟨rfl, Blk.drew (Blk.alloc (Blk.set HB.out 0 _) _), gb_drew (gb_alloc (gb_set (gb_refl _ _) _ _) _)⟩
    · have hv : Hid (Sc.stepM r ⟨3, t, f, 2⟩ ⟨a, c0, c1, c2, c3⟩ = ⟨c2, c0, c1, c2, c3⟩) := rfl
      go_enter Try.func79, Try.ntmps79
      go_wp2_with fail
      refine (hW _).mono ?_
      rintro e w1 ⟨rfl, rfl⟩
      clear hW
      go_wp2_with fail
      go_region
      go_wp2_with fail
      go_end0
      rw [hv.out]
      exact ⟨rfl, Blk.drew (Blk.alloc (Blk.set HB.out 0 _) _), gb_drew (gb_alloc (gb_set (gb_refl _ _) _ _) _)⟩
    · have hv : Hid (Sc.stepM r ⟨3, t, f, 3⟩ ⟨a, c0, c1, c2, c3⟩ = ⟨c3, c0, c1, c2, c3⟩) := rfl
      go_enter Try.func79, Try.ntmps79
      go_wp2_with fail
      refine (hW _).mono ?_
      rintro e w1 ⟨rfl, rfl⟩
      clear hW
      go_wp2_with fail
      go_region
      go_wp2_with fail
      go_end0
      rw [hv.out]
      exact ⟨rfl, Blk.drew (Blk.alloc (Blk.set HB.out 0 _) _), gb_drew (gb_alloc (gb_set (gb_refl _ _) _ _) _)⟩
  by_cases q4 : op = 4
  · subst q4
    have hk3 := y2 (Or.inr rfl)
    have hk2 : (0 ≤ k ∧ k ≤ 3) := ⟨x7, hk3⟩
    simp only [hk2, and_self, decide_true] at hW
    clear y1 y2 y3 y4
    have hkc : k = 0 ∨ k = 1 ∨ k = 2 ∨ k = 3 := by omega
    clear hk2 hk3 x7 x8
    rcases hkc with rfl | rfl | rfl | rfl
    · have hv : Hid (Sc.stepM r ⟨4, t, f, 0⟩ ⟨a, c0, c1, c2, c3⟩ = ⟨a, a, c1, c2, c3⟩) := rfl
      go_enter Try.func79, Try.ntmps79
      go_wp2_with fail
      refine (hW _).mono ?_
      rintro e w1 ⟨rfl, rfl⟩
      clear hW
      go_wp2_with fail
      go_region
      go_wp2_with fail
      go_end0
      rw [hv.out]
      exact ⟨rfl, Blk.drew (Blk.alloc (Blk.set HB.out 1 _) _), gb_drew (gb_alloc (gb_set (gb_refl _ _) _ _) _)⟩
    · have hv : Hid (Sc.stepM r ⟨4, t, f, 1⟩ ⟨a, c0, c1, c2, c3⟩ = ⟨a, c0, a, c2, c3⟩) := rfl
      go_enter Try.func79, Try.ntmps79
      go_wp2_with fail
      refine (hW _).mono ?_
      rintro e w1 ⟨rfl, rfl⟩
      clear hW
      go_wp2_with fail
      go_region
      go_wp2_with fail
      go_end0
      rw [hv.out]
      exact ⟨rfl, Blk.drew (Blk.alloc (Blk.set HB.out 2 _) _), gb_drew (gb_alloc (gb_set (gb_refl _ _) _ _) _)⟩
    · have hv : Hid (Sc.stepM r ⟨4, t, f, 2⟩ ⟨a, c0, c1, c2, c3⟩ = ⟨a, c0, c1, a, c3⟩) := rfl
      go_enter Try.func79, Try.ntmps79
      go_wp2_with fail
      refine (hW _).mono ?_
      rintro e w1 ⟨rfl, rfl⟩
      clear hW
      go_wp2_with fail
      go_region
      go_wp2_with fail
      go_end0
      rw [hv.out]
      exact ⟨rfl, Blk.drew (Blk.alloc (Blk.set HB.out 3 _) _), gb_drew (gb_alloc (gb_set (gb_refl _ _) _ _) _)⟩
    · have hv : Hid (Sc.stepM r ⟨4, t, f, 3⟩ ⟨a, c0, c1, c2, c3⟩ = ⟨a, c0, c1, c2, a⟩) := rfl
      go_enter Try.func79, Try.ntmps79
      go_wp2_with fail
      refine (hW _).mono ?_
      rintro e w1 ⟨rfl, rfl⟩
      clear hW
      go_wp2_with fail
      go_region
      go_wp2_with fail
      go_end0
      rw [hv.out]
      exact ⟨rfl, Blk.drew (Blk.alloc (Blk.set HB.out 4 _) _), gb_drew (gb_alloc (gb_set (gb_refl _ _) _ _) _)⟩
  have e1 : (op == 1) = false := by simp [q1]
  have e2 : (op == 2) = false := by simp [q2]
  have e3 : (op == 3) = false := by simp [q3]
  have e4 : (op == 4) = false := by simp [q4]
  have hv : Hid (Sc.stepM r ⟨op, t, f, k⟩ ⟨a, c0, c1, c2, c3⟩ = ⟨Sc.becomes ⟨op, t, f, k⟩ a, c0, c1, c2, c3⟩) := by
    unfold Hid Sc.stepM; rw [if_neg q1, if_neg q2, if_neg q3, if_neg q4]
  have hR := hid (fun w => mReckon_any w op t f a k m0 m1 x7 x8 y3 y4)
  generalize Sc.becomes ⟨op, t, f, k⟩ a = z at *
  clear hW y1 y2 y3 y4 q1 q2 q3 q4
  go_enter Try.func79, Try.ntmps79
  go_wp2_with fail
  go_region_with (go_at_call 95; refine (hR.out _).mono ?_; rintro e w' ⟨rfl, rfl⟩)
  all_goals
    go_wp2_with fail
    go_end0
    rw [hv.out]
    exact ⟨rfl, Blk.drew (Blk.alloc (Blk.set HB.out 0 _) _), gb_drew (gb_alloc (gb_set (gb_refl _ _) _ _) _)⟩
end Go.Proofs.Ytldongbimhngfaa
/- A run: the program's walk. -/
namespace Go.Proofs.Ytldongbimhngfaa
open Go.RowKit
set_option linter.unusedVariables false
set_option linter.unusedSimpArgs false

theorem hop_step (r : ByteArray) (x : Sc.In) (m : Sc.Mc) : Sc.hop x (Sc.stepM r x m).a = Sc.hop x m.a := by
  obtain ⟨op, t, f, k⟩ := x
  by_cases h1 : op = 10
  · subst h1; rfl
  · by_cases h2 : Sc.isTest op = true
    · have hop : 11 ≤ op ∧ op ≤ 14 := by rw [isTest_iff] at h2; simpa using h2
      have e : (Sc.stepM r ⟨op, t, f, k⟩ m).a = m.a := by
        unfold Sc.stepM
        rw [if_neg (by simp only; omega), if_neg (by simp only; omega), if_neg (by simp only; omega), if_neg (by simp only; omega)]
        simp only
        unfold Sc.becomes
        rw [if_neg (by simp only; omega), if_neg (by simp only; omega), if_neg (by simp only; omega), if_neg (by simp only; omega), if_neg (by simp only; omega)]
      rw [e]
    · unfold Sc.hop
      simp only
      rw [if_neg h1, if_neg h2, if_neg h1, if_neg h2]
theorem hop_rng (x : Sc.In) (a : Int) (h : InRng x) : 0 ≤ Sc.hop x a ∧ Sc.hop x a ≤ 65535 := by
  obtain ⟨h1, h2, h3, h4, h5, h6, h7, h8⟩ := h
  unfold Sc.hop
  repeat' split
  all_goals omega
theorem runN_end (r : ByteArray) (g : Nat) (m : Sc.Mc) (s : Int) : Sc.runN r g [] m s = (0, s) := by cases g <;> rfl

set_option maxRecDepth 100000 in
set_option maxHeartbeats 4000000 in
theorem mRun_list (w : World) (sa : Option Addr) (sc : Nat) (L : List Sc.In) (r : ByteArray) (hr : r.size = 20) (hI : InsAt w sa L) (hle : L.length ≤ 1024) (hok : ∀ i (h : i < L.length), DoOk L[i]) :
    Calls Try.prog 65 #[.slice sa L.length sc, .string r] w fun e w' => e = .returned (.tuple #[.int .i64 (Sc.runL r L).1, .int .i64 (Sc.runL r L).2]) ∧ w.grownBy w' none := by
  have HI := hid hI
  have HK := hid hok
  have HR : Hid (Sc.runL r L = Sc.runN r (L.length + 1) L ⟨0, 0, 0, 0, 0⟩ 0) := rfl
  have Hr := hid hr
  generalize Sc.runL r L = R at *
  obtain ⟨v, n⟩ := R
  clear hI hok hr
  go_enter Try.func65, Try.ntmps65
  go_wp2_with fail
  go_loopw [7, 8] (fun st i wr => ∃ (k : Nat) (s : Nat) (m : Sc.Mc) (g : Nat), k ≤ 70000 ∧ s ≤ k ∧ i = .int .i64 k ∧ st = .int .i64 s ∧ McOk m ∧ StAt wr w.heap.size m ∧ w.grownBy wr none ∧ Hid (L.length + 1 ≤ k + g) ∧ Hid (Sc.runN r g (L.drop k) m s = (v, n))) (fun _ i _ => L.length - (intOf i).toNat)
  case atStart => exact ⟨0, 0, ⟨0, 0, 0, 0, 0⟩, L.length + 1, by omega, by omega, rfl, rfl, by unfold McOk; simp, Blk.new w _ _, gb_alloc (gb_refl _ _) _, by unfold Hid; omega, by unfold Hid; rw [HR.out]; rfl⟩
  case round =>
    obtain ⟨k, s, m, g, hk, hs, rfl, rfl, hm, hB, hg, hfu, hS⟩ := hrel
    have Hg := hid hg
    have HB := hid hB
    have Hm := hid hm
    have hz := hB.lt
    clear HR
    by_cases hlt : k < L.length
    · have hdr : Hid (L.drop k = L[k] :: L.drop (k + 1)) := by unfold Hid; rw [List.drop_eq_getElem_cons hlt]
      obtain ⟨b, off, rfl, hb, hcell⟩ := (HI.out.keep hg) k hlt
      have hx := HK.out k hlt
      have t0 := hcell 0 (by omega)
      have t1 := hcell 1 (by omega)
      have t2 := hcell 2 (by omega)
      have t3 := hcell 3 (by omega)
      obtain ⟨g', hg'⟩ : ∃ g', g = g' + 1 := ⟨g - 1, by have := hfu.out; omega⟩
      subst hg'
      obtain ⟨X, hX⟩ : ∃ X, X = L[k] := ⟨_, rfl⟩
      rw [← hX] at hx t0 t1 t2 t3 hdr
      have hst : Hid ((if X.op = 15 then (X.k, (s : Int) + 1) else if X.op = 16 then (m.a, (s : Int) + 1) else Sc.runN r g' ((L.drop (k + 1)).drop (Sc.hop X m.a).toNat) (Sc.stepM r X m) ((s : Int) + 1)) = (v, n)) := by
        unfold Hid at *; rw [← hS, hdr]; rfl
      have hD := hid (fun (W : World) (h : StAt W w.heap.size m) => mDo_any W w.heap.size m X r h Hm.out hx Hr.out)
      have hm2 := stepM_rng r X m Hr.out hx hm
      have hH := hid (fun w => mHop_any w X (Sc.stepM r X m).a hm2.1 hm2.2.1 hx.1.2.2.2.2.2.2.1 hx.1.2.2.2.2.2.2.2)
      rw [hop_step] at hH
      have hhr := hop_rng X m.a hx.1
      have HX := hid hX
      have Hm2 := hid hm2
      clear hX hcell hdr hS hg hm hm2 hB
      have a0 := Blk.cell HB.out 0
      simp [mcCells] at a0
      generalize Sc.stepM r X m = m2 at *
      generalize Sc.hop X m.a = hp at *
      obtain ⟨op, t, f, kk⟩ := X
      simp [inCells] at t0 t1 t2 t3
      simp only at hst
      clear hx
      by_cases h15 : op = 15
      · subst h15
        have hv : Hid ((kk, (s : Int) + 1) = (v, n)) := by unfold Hid; rw [← hst.out, if_pos rfl]
        clear hD hH hst
        go_wp2_with fail
        go_ret2
        have := hv.out
        simp only [Prod.mk.injEq] at this
        obtain ⟨rfl, rfl⟩ := this
        exact ⟨rfl, gb_alloc Hg.out _⟩
      have e15 : (op == 15) = false := by simp [h15]
      by_cases h16 : op = 16
      · subst h16
        have hv : Hid ((m.a, (s : Int) + 1) = (v, n)) := by unfold Hid; rw [← hst.out, if_neg (by decide), if_pos rfl]
        clear hD hH hst h15 e15
        go_wp2_with fail
        go_ret2
        have := hv.out
        simp only [Prod.mk.injEq] at this
        obtain ⟨rfl, rfl⟩ := this
        exact ⟨rfl, gb_alloc Hg.out _⟩
      have e16 : (op == 16) = false := by simp [h16]
      have hst2 : Hid (Sc.runN r g' ((L.drop (k + 1)).drop hp.toNat) m2 ((s : Int) + 1) = (v, n)) := by
        unfold Hid; rw [← hst.out, if_neg h15, if_neg h16]
      clear hst h15 h16
      simp only [inCells] at hD hH
      go_wp2_with fail
      refine (hD.out _ (Blk.alloc HB.out _)).mono ?_
      rintro e w2 ⟨rfl, hB2, hg2⟩
      have X2 := (Blk.new wr 46 #[.int .i64 op, .int .i64 t, .int .i64 f, .int .i64 kk]).keep hg2 (by simp; omega)
      have x0 := X2.cell 0
      have x1 := X2.cell 1
      have x2 := X2.cell 2
      have x3 := X2.cell 3
      have y0 := Blk.cell hB2 0
      simp [mcCells] at x0 x1 x2 x3 y0
      have HB2 := hid hB2
      have Hg2 := hid (gb_grow Hg.out (gb_unalloc hg2) (fun j hj => by cases hj; exact Nat.le_refl _))
      clear hB2 hg2 hD t0 t1 t2 t3 a0
      go_wp2_with fail
      refine (hH.out _).mono ?_
      rintro e w3 ⟨rfl, hg3⟩
      have Hg3 := hid hg3
      clear hH hg3
      obtain ⟨h, rfl⟩ := Int.eq_ofNat_of_zero_le hhr.1
      have hhb : h ≤ 65535 := by omega
      clear hhr
      go_wp2_with fail
      go_roundw
      case rel =>
        refine ⟨k + 1 + h, s + 1, m2, g', by omega, by omega, by go_num, by go_num, Hm2.out, Blk.keep HB2.out Hg3.out (by simp), gb_trans Hg2.out Hg3.out, by have := hfu.out; unfold Hid; omega, ?_⟩
        have := hst2.out
        unfold Hid
        rw [Int.toNat_natCast, List.drop_drop] at this
        simpa using this
      case measure => simp [intOf]; omega
    · have hS2 : Hid ((0, (s : Int)) = (v, n)) := by
        have := hS.out
        rw [List.drop_eq_nil_of_le (by omega), runN_end] at this
        exact this
      clear hS hg hB hm
      go_wp2_with fail
      go_ret2
      have := hS2.out
      simp only [Prod.mk.injEq] at this
      obtain ⟨rfl, rfl⟩ := this
      exact ⟨rfl, Hg.out⟩

theorem soundN_ok (L : List Sc.In) : ∀ (l : List Sc.In) (i : Nat), (Sc.soundN L i l).1 = 0 → ∀ j (h : j < l.length), Sc.wrongE l[j] ((l.length - (j + 1) : Nat) : Int) = 0 := by
  intro l
  induction l with
  | nil => intro i h j hj; simp at hj
  | cons x r ih =>
    intro i h j hj
    simp only [Sc.soundN] at h
    split at h
    · next hw =>
      cases j with
      | zero => simpa using hw
      | succ j =>
        have := ih (i + 1) h j (by simpa using hj)
        simpa using this
    · next hw => exact absurd h hw
theorem sound_steps (c : ByteArray) (h : (Sc.sound c).1 = 0) : Sc.decE c = 0 ∧ ∀ j (hj : j < (Sc.decL c).length), Sc.wrongE (Sc.decL c)[j] (((Sc.decL c).length - (j + 1) : Nat) : Int) = 0 := by
  have hE : Sc.decE c = 0 := by
    unfold Sc.sound at h
    split at h
    · assumption
    · next q => exact absurd h q
  refine ⟨hE, ?_⟩
  unfold Sc.sound at h
  rw [if_pos hE] at h
  unfold Sc.soundL at h
  split at h
  · cases h
  · split at h
    · next q => exact soundN_ok _ _ _ q
    · next q => exact absurd h q
theorem sound_doOk (c : ByteArray) (h : (Sc.sound c).1 = 0) : ∀ j (hj : j < (Sc.decL c).length), DoOk (Sc.decL c)[j] :=
  fun j hj => doOk_of _ _ (decL_rng c j hj) ((sound_steps c h).2 j hj)

set_option maxRecDepth 100000 in
set_option maxHeartbeats 2000000 in
theorem mRun_any (w : World) (c r : ByteArray) (hc : c.size ≤ maxLen) (hm : r.size ≤ maxLen) :
    Calls Try.prog 56 #[.string c, .string r] w fun e w' => e = .returned (.tuple #[.int .i64 (Sc.runC c r).1, .int .i64 (Sc.runC c r).2.1, .int .i64 (Sc.runC c r).2.2]) ∧ w.grownBy w' none := by
  have hR := mRead_any w c hc
  by_cases hS : (Sc.sound c).1 = 0
  · have hrl : readL c = Sc.decL c := by unfold readL; rw [if_pos hS]
    rw [hrl, hS] at hR
    have hok := hid (sound_doOk c hS)
    have hle := decL_le c
    by_cases hr : r.size = 20
    · have hv : Hid (Sc.runC c r = ((Sc.runL r (Sc.decL c)).1, (Sc.runL r (Sc.decL c)).2, 0)) := by unfold Hid Sc.runC; rw [if_pos hS, if_pos hr]
      have hI := fun w => isRecord_any w r hm
      simp only [hr, decide_true] at hI
      have Hr := hid hr
      generalize Sc.decL c = L at *
      clear hS hrl hr
      go_enter Try.func56, Try.ntmps56
      go_wp2_with fail
      refine hR.mono ?_
      rintro e w1 ⟨sa, rfl, hg1, ho1⟩
      clear hR
      go_wp2_with fail
      refine (hI _).mono ?_
      rintro e w2 ⟨rfl, rfl⟩
      clear hI
      have hX := mRun_list w2 sa L.length L r Hr.out (InsAt.of_own rfl ho1) hle hok.out
      clear ho1
      go_wp2_with fail
      refine hX.mono ?_
      rintro e w3 ⟨rfl, hg3⟩
      clear hX
      go_wp2_with fail
      refine bodyPost_ret (v := .tuple #[.int .i64 (Sc.runL r L).1, .int .i64 (Sc.runL r L).2, .int .i64 0]) (by simp [results, Try.results56, go_sem]) rfl ?_
      rw [hv.out]
      exact ⟨rfl, gb_trans hg1 hg3⟩
    · have hv : Hid (Sc.runC c r = (0, 0, 9)) := by unfold Hid Sc.runC; rw [if_pos hS, if_neg hr]
      have hI := fun w => isRecord_any w r hm
      simp only [hr, decide_false] at hI
      generalize Sc.decL c = L at *
      clear hS hrl hr
      go_enter Try.func56, Try.ntmps56
      go_wp2_with fail
      refine hR.mono ?_
      rintro e w1 ⟨sa, rfl, hg1, ho1⟩
      clear hR ho1
      go_wp2_with fail
      refine (hI _).mono ?_
      rintro e w2 ⟨rfl, rfl⟩
      clear hI
      go_wp2_with fail
      refine bodyPost_ret (v := .tuple #[.int .i64 0, .int .i64 0, .int .i64 9]) (by simp [results, Try.results56, go_sem]) rfl ?_
      rw [hv.out]
      exact ⟨rfl, hg1⟩
  · have hv : Hid (Sc.runC c r = (0, 0, (Sc.sound c).1)) := by unfold Hid Sc.runC; rw [if_neg hS]
    have e1 : ((Sc.sound c).1 != 0) = true := by simp [hS]
    generalize (Sc.sound c).1 = E at *
    clear hS
    go_enter Try.func56, Try.ntmps56
    go_wp2_with fail
    refine hR.mono ?_
    rintro e w1 ⟨sa, rfl, hg1, ho1⟩
    clear hR ho1
    go_wp2_with fail
    refine bodyPost_ret (v := .tuple #[.int .i64 0, .int .i64 0, .int .i64 E]) (by simp [results, Try.results56, go_sem]) rfl ?_
    rw [hv.out]
    exact ⟨rfl, hg1⟩

set_option maxHeartbeats 1000000 in
theorem run_any (w : World) (c r : ByteArray) (hc : c.size ≤ maxLen) (hm : r.size ≤ maxLen) :
    Calls Try.prog 44 #[.string c, .string r] w fun e w' => e = .returned (.tuple #[.int .i64 (Sc.runC c r).1, .int .i64 (Sc.runC c r).2.1, .int .i64 (Sc.runC c r).2.2]) ∧ w.grownBy w' none := by
  have hR := mRun_any w c r hc hm
  generalize Sc.runC c r = X at *
  obtain ⟨a, b, d⟩ := X
  go_enter Try.func44, Try.ntmps44
  go_wp2_with fail
  refine hR.mono ?_
  rintro e w1 ⟨rfl, hg1⟩
  clear hR
  go_wp2_with fail
  refine bodyPost_ret (v := .tuple #[.int .i64 a, .int .i64 b, .int .i64 d]) (by simp [results, Try.results44, go_sem]) rfl ?_
  exact ⟨rfl, hg1⟩
end Go.Proofs.Ytldongbimhngfaa
