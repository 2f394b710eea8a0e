import Derived.Test.YtpamlgdopmjooaaGreatRf2
import Derived.Test.YtpamlgdopmjooaaGreatRp
namespace Go.Proofs.YtpamlgdopmjooaaGreat
open Go.RowKit
set_option linter.unusedVariables false
set_option linter.unusedSimpArgs false

theorem hexVal_bd (c : Int) : -1 ≤ Sv.hexVal c ∧ Sv.hexVal c ≤ 15 := by unfold Sv.hexVal; split; omega; split <;> omega
theorem numN_bd (t : ByteArray) (p k : Nat) : -((16 : Int) ^ k) + 1 ≤ Sv.numN t p k ∧ Sv.numN t p k ≤ (16 : Int) ^ k - 1 := by
  induction k with
  | zero => simp [Sv.numN]
  | succ k ih =>
    have := hexVal_bd (Sv.byteAt t (p + k))
    have hp : (0 : Int) < 16 ^ k := Int.pow_pos (by omega)
    simp only [Sv.numN]
    rw [Int.pow_succ]
    omega
theorem pow16 (k : Nat) (h : k ≤ 8) : (16 : Int) ^ k ≤ 4294967296 := by
  have : k = 0 ∨ k = 1 ∨ k = 2 ∨ k = 3 ∨ k = 4 ∨ k = 5 ∨ k = 6 ∨ k = 7 ∨ k = 8 := by omega
  rcases this with rfl | rfl | rfl | rfl | rfl | rfl | rfl | rfl | rfl <;> decide

set_option maxRecDepth 100000 in
set_option maxHeartbeats 1000000 in
theorem number_any (w : World) (t : ByteArray) (a n : Int) (h0 : 0 ≤ a) (hn0 : 0 ≤ n) (hn : n ≤ 8) (h : a + n ≤ t.size) (hs : t.size ≤ 600) :
    Calls Tryz.prog 45 #[.string t, .int .i64 a, .int .i64 n] w fun e w' => e = .returned (.int .i64 (Sv.numN t a.toNat n.toNat)) ∧ w' = w := by
  obtain ⟨p, rfl⟩ := Int.eq_ofNat_of_zero_le h0
  obtain ⟨m, rfl⟩ := Int.eq_ofNat_of_zero_le hn0
  rw [Int.toNat_natCast, Int.toNat_natCast]
  go_enter Tryz.func45, Tryz.ntmps45
  go_wp2_with fail
  go_loop [7, 8] (fun v i => ∃ k : Nat, k ≤ m ∧ i = .int .i64 ((p : Int) + k) ∧ v = .int .i64 (Sv.numN t p k)) (fun _ i => p + m - (intOf i).toNat)
  case atStart => exact ⟨0, Nat.zero_le _, by simp, rfl⟩
  case round =>
    obtain ⟨k, hk, rfl, rfl⟩ := hrel
    have hb := numN_bd t p k
    have hp16 := pow16 k (by omega)
    have hb1 : -4294967296 ≤ Sv.numN t p k := by omega
    have hb2 : Sv.numN t p k ≤ 4294967296 := by omega
    have hst : Hid (Sv.numN t p (k + 1) = 16 * Sv.numN t p k + Sv.hexVal (Sv.byteAt t (p + k))) := rfl
    clear hb hp16
    by_cases hlt : k < m
    · have hpk : p + k < t.size := by omega
      have e2 : (p : Int) + (k : Int) < (t.size : Int) := by omega
      have e3 : (0 : Int) ≤ (p : Int) + (k : Int) := by omega
      have e4 : ((p : Int) + (k : Int)).toNat = p + k := by omega
      have hB : Hid (Sv.byteAt t (p + k) = (t[p + k].toNat : Int)) := byteAt_in hpk
      have hd0 := hexVal_bd (t[p + k].toNat : Int)
      have hd := refDigit_any w (t[p + k].toNat : Int)
      have hv : hexV (t[p + k].toNat : Int) = Sv.hexVal (t[p + k].toNat : Int) := rfl
      rw [hv] at hd
      have hst2 : Hid (Sv.numN t p (k + 1) = 16 * Sv.numN t p k + Sv.hexVal (t[p + k].toNat : Int)) := by unfold Hid; rw [hst.out, hB.out]
      have d1 := hd0.1
      have d2 := hd0.2
      clear hst hB hd0 hv
      generalize Sv.numN t p k = x at *
      go_wp2_with fail
      refine hd.mono ?_
      rintro e w1 ⟨rfl, hw⟩
      subst hw
      clear hd
      generalize Sv.hexVal (t[p + k].toNat : Int) = d at *
      go_wp2_with fail
      go_round
      case rel => exact ⟨k + 1, by omega, by simp; omega, by rw [hst2.out]⟩
      case measure => simp [intOf]; omega
    · have hkm : k = m := by omega
      subst hkm
      clear hst
      go_wp2_with fail
      go_ret
      exact ⟨rfl, rfl⟩

/-- what bytes has behind k rounds -/
def bN (r : ByteArray) (a n : Nat) : Nat → Int
  | 0 => 0
  | k + 1 => 256 * bN r a n k + Sv.byteAt r (a + (n - 1 - k))
theorem bN_bd (r : ByteArray) (a n k : Nat) (h : a + n ≤ r.size) (hk : k ≤ n) (hn : n ≤ 4) : 0 ≤ bN r a n k ∧ bN r a n k < (256 : Int) ^ k := by
  induction k with
  | zero => simp [bN]
  | succ k ih =>
    have := ih (by omega)
    have h2 := Sv.byteAt_lt r (a + (n - 1 - k))
    have h3 : 0 ≤ Sv.byteAt r (a + (n - 1 - k)) := by rw [byteAt_in (by omega)]; omega
    simp only [bN]
    rw [Int.pow_succ]
    omega
theorem pow256 (k : Nat) (h : k ≤ 4) : (256 : Int) ^ k ≤ 4294967296 := by
  have : k = 0 ∨ k = 1 ∨ k = 2 ∨ k = 3 ∨ k = 4 := by omega
  rcases this with rfl | rfl | rfl | rfl | rfl <;> decide
theorem bN_2 (r : ByteArray) (a : Nat) : bN r a 2 2 = Sv.wordAt r a := by
  simp [bN, Sv.wordAt]; omega
theorem bN_4 (r : ByteArray) (a : Nat) : bN r a 4 4 = Sv.wordAt r a + 65536 * Sv.wordAt r ((a : Int) + 2) := by
  have e : ((a : Int) + 2).toNat = a + 2 := by omega
  simp [bN, Sv.wordAt, e, Nat.add_assoc]; omega

set_option maxRecDepth 100000 in
set_option maxHeartbeats 1000000 in
theorem bytes_any (w : World) (r : ByteArray) (a n : Int) (h0 : 0 ≤ a) (hn0 : 0 ≤ n) (hn : n ≤ 4) (h : a + n ≤ r.size) (hs : r.size ≤ 20) :
    Calls Tryz.prog 53 #[.string r, .int .i64 a, .int .i64 n] w fun e w' => e = .returned (.int .i64 (bN r a.toNat n.toNat n.toNat)) ∧ w' = w := by
  obtain ⟨p, rfl⟩ := Int.eq_ofNat_of_zero_le h0
  obtain ⟨m, rfl⟩ := Int.eq_ofNat_of_zero_le hn0
  rw [Int.toNat_natCast, Int.toNat_natCast]
  go_enter Tryz.func53, Tryz.ntmps53
  go_wp2_with fail
  go_loop [7, 8] (fun v i => ∃ k : Nat, k ≤ m ∧ i = .int .i64 ((m : Int) - 1 - k) ∧ v = .int .i64 (bN r p m k)) (fun _ i => (intOf i + 1).toNat)
  case atStart => exact ⟨0, Nat.zero_le _, by simp, rfl⟩
  case round =>
    obtain ⟨k, hk, rfl, rfl⟩ := hrel
    have hb := bN_bd r p m k (by omega) hk (by omega)
    have hp2 := pow256 k (by omega)
    have hb1 := hb.1
    have hb2 : bN r p m k ≤ 4294967296 := by omega
    have hst : Hid (bN r p m (k + 1) = 256 * bN r p m k + Sv.byteAt r (p + (m - 1 - k))) := rfl
    clear hb hp2
    by_cases hlt : k < m
    · have hpk : p + (m - 1 - k) < r.size := by omega
      have hd : decide ((0 : Int) ≤ (m : Int) - 1 - (k : Int)) = true := by simp; omega
      have e1 : (0 : Int) ≤ (m : Int) - 1 - (k : Int) := by omega
      have e2 : (p : Int) + ((m : Int) - 1 - (k : Int)) < (r.size : Int) := by omega
      have e3 : (0 : Int) ≤ (p : Int) + ((m : Int) - 1 - (k : Int)) := by omega
      have e4 : ((p : Int) + ((m : Int) - 1 - (k : Int))).toNat = p + (m - 1 - k) := by omega
      have hB : Hid (Sv.byteAt r (p + (m - 1 - k)) = (r[p + (m - 1 - k)].toNat : Int)) := byteAt_in hpk
      have hu := r[p + (m - 1 - k)].toNat_lt
      have hwb := wrap_byte r[p + (m - 1 - k)]
      generalize bN r p m k = x at *
      go_wp2_with fail
      go_round
      case rel => exact ⟨k + 1, by omega, by simp; omega, by rw [hst.out, hB.out]⟩
      case measure => simp [intOf]; omega
    · have hkm : k = m := by omega
      subst hkm
      have hd : decide ((0 : Int) ≤ (k : Int) - 1 - (k : Int)) = false := by simp; omega
      clear hst
      go_wp2_with fail
      go_ret
      exact ⟨rfl, rfl⟩

set_option maxHeartbeats 1000000 in
theorem related_any (w : World) (c x y : Int) :
    Calls Tryz.prog 62 #[.int .u8 c, .int .i64 x, .int .i64 y] w fun e w' => e = .returned (.bool (Sv.relB c x y)) ∧ w' = w := by
  by_cases q0 : c = 61
  · have hv : Hid (Sv.relB c x y = (x == y)) := by unfold Hid Sv.relB; rw [if_pos q0]
    subst q0
    go_enter Tryz.func62, Tryz.ntmps62
    go_wp2
    go_ret
    rw [hv.out]
    exact ⟨rfl, rfl⟩
  have p0 : (c == 61) = false := by simp [q0]
  by_cases q1 : c = 60
  · have hv : Hid (Sv.relB c x y = decide (x < y)) := by unfold Hid Sv.relB; rw [if_neg q0, if_pos q1]
    subst q1
    clear q0 p0
    go_enter Tryz.func62, Tryz.ntmps62
    go_wp2
    go_ret
    rw [hv.out]
    exact ⟨rfl, rfl⟩
  have p1 : (c == 60) = false := by simp [q1]
  have hv : Hid (Sv.relB c x y = decide (y < x)) := by unfold Hid Sv.relB; rw [if_neg q0, if_neg q1]
  clear q0 q1
  go_enter Tryz.func62, Tryz.ntmps62
  go_wp2
  go_ret
  rw [hv.out]
  exact ⟨rfl, rfl⟩

theorem and_step (x y : Nat) : x &&& y = (if x % 2 = 1 ∧ y % 2 = 1 then 1 else 0) + 2 * ((x / 2) &&& (y / 2)) := by
  have h1 : (x &&& y) / 2 = (x / 2) &&& (y / 2) := Nat.and_div_two
  have h2 : (x &&& y) % 2 = if x % 2 = 1 ∧ y % 2 = 1 then 1 else 0 := by
    have h3 : (x &&& y).testBit 0 = (x.testBit 0 && y.testBit 0) := Nat.testBit_and x y 0
    simp only [Nat.testBit_zero] at h3
    have h4 : decide ((x &&& y) % 2 = 1) = decide (x % 2 = 1 ∧ y % 2 = 1) := by rw [h3, Bool.decide_and]
    have h5 : ((x &&& y) % 2 = 1) ↔ (x % 2 = 1 ∧ y % 2 = 1) := decide_eq_decide.1 h4
    have := Nat.mod_two_eq_zero_or_one (x &&& y)
    split
    · next h => exact h5.2 h
    · next h =>
      rcases this with h6 | h6
      · exact h6
      · exact absurd (h5.1 h6) h
  have := Nat.div_add_mod (x &&& y) 2
  omega

set_option maxRecDepth 100000 in
set_option maxHeartbeats 1000000 in
theorem shared_any (w : World) (a b : Int) (a0 : 0 ≤ a) (a1 : a < 4294967296) (b0 : 0 ≤ b) (b1 : b < 4294967296) :
    Calls Tryz.prog 77 #[.int .i64 a, .int .i64 b] w fun e w' => e = .returned (.int .i64 (Sv.land a b)) ∧ w' = w := by
  obtain ⟨X, rfl⟩ := Int.eq_ofNat_of_zero_le a0
  obtain ⟨Y, rfl⟩ := Int.eq_ofNat_of_zero_le b0
  have hv : Hid (Sv.land (X : Int) (Y : Int) = ((X &&& Y : Nat) : Int)) := rfl
  have hle : X &&& Y ≤ X := Nat.and_le_left
  generalize hZ : X &&& Y = Z at *
  have HZ := hid hZ
  clear hZ
  go_enter Tryz.func77, Tryz.ntmps77
  go_wp2_with fail
  go_loop [0, 1, 5, 6] (fun u v o p => ∃ x y out worth : Nat, u = .int .i64 x ∧ v = .int .i64 y ∧ o = .int .i64 out ∧ p = .int .i64 worth ∧ x < 4294967296 ∧ y < 4294967296 ∧ 1 ≤ worth ∧ worth ≤ 8589934592 ∧ Hid (worth * x ≤ 4294967296) ∧ Hid (out + worth * (x &&& y) = Z)) (fun u _ _ _ => (intOf u).toNat)
  case atStart => exact ⟨X, Y, 0, 1, rfl, rfl, rfl, rfl, by omega, by omega, by omega, by omega, by unfold Hid; omega, by unfold Hid; rw [HZ.out]; omega⟩
  case round =>
    obtain ⟨x, y, out, worth, rfl, rfl, rfl, rfl, hx, hy, hw1, hw2, H1, H2⟩ := hrel
    have ho : out ≤ 4294967296 := by have := H2.out; omega
    by_cases hx0 : 0 < x
    · have dx : decide ((0 : Int) < (x : Int)) = true := by simp; omega
      by_cases hy0 : 0 < y
      · have dy : decide ((0 : Int) < (y : Int)) = true := by simp; omega
        have hw3 : worth ≤ 4294967296 := Nat.le_trans (Nat.le_mul_of_pos_right worth hx0) H1.out
        have hst := hid (and_step x y)
        have H1' : Hid (2 * worth * (x / 2) ≤ 4294967296) := by
          unfold Hid
          have h1 : 2 * worth * (x / 2) = worth * (2 * (x / 2)) := by rw [Nat.mul_comm 2 worth, Nat.mul_assoc]
          have h2 : worth * (2 * (x / 2)) ≤ worth * x := Nat.mul_le_mul_left _ (by omega)
          have := H1.out
          omega
        have key : ∀ d : Nat, (d + 2 * ((x / 2) &&& (y / 2)) = x &&& y) → out + worth * d + 2 * worth * ((x / 2) &&& (y / 2)) = Z := by
          intro d hd
          have h3 := H2.out
          rw [← hd, Nat.mul_add] at h3
          have h4 : worth * (2 * ((x / 2) &&& (y / 2))) = 2 * worth * ((x / 2) &&& (y / 2)) := by rw [← Nat.mul_assoc, Nat.mul_comm worth 2]
          omega
        have Hkey := hid key
        clear key
        by_cases hxo : x % 2 = 1
        · have bx : (((x : Int) % 2) == 1) = true := by simp; omega
          by_cases hyo : y % 2 = 1
          · have byy : (((y : Int) % 2) == 1) = true := by simp; omega
            have hk := Hkey.out 1 (by rw [hst.out]; simp [hxo, hyo])
            have Hk := hid hk
            clear hk
            go_wp2_with fail
            go_round
            case rel => exact ⟨x / 2, y / 2, out + worth, 2 * worth, by simp, by simp, by simp, by simp, by omega, by omega, by omega, by omega, H1', by unfold Hid; have := Hk.out; rw [Nat.mul_one] at this; exact this⟩
            case measure => simp [intOf]; omega
          · have byy : (((y : Int) % 2) == 1) = false := by simp; omega
            have hk := Hkey.out 0 (by rw [hst.out]; simp [hxo, hyo])
            have Hk := hid hk
            clear hk
            go_wp2_with fail
            go_round
            case rel => exact ⟨x / 2, y / 2, out, 2 * worth, by simp, by simp, by simp, by simp, by omega, by omega, by omega, by omega, H1', by unfold Hid; have := Hk.out; rw [Nat.mul_zero, Nat.add_zero] at this; exact this⟩
            case measure => simp [intOf]; omega
        · have bx : (((x : Int) % 2) == 1) = false := by simp; omega
          have hk := Hkey.out 0 (by rw [hst.out]; simp [hxo])
          have Hk := hid hk
          clear hk
          go_wp2_with fail
          go_round
          case rel => exact ⟨x / 2, y / 2, out, 2 * worth, by simp, by simp, by simp, by simp, by omega, by omega, by omega, by omega, H1', by unfold Hid; have := Hk.out; rw [Nat.mul_zero, Nat.add_zero] at this; exact this⟩
          case measure => simp [intOf]; omega
      · have dy : decide ((0 : Int) < (y : Int)) = false := by simp; omega
        have hz : Hid (out = Z) := by
          unfold Hid; have h3 := H2.out
          have : y = 0 := by omega
          rw [this] at h3; simpa using h3
        go_wp2_with fail
        go_ret
        rw [hv.out, ← hz.out]
        exact ⟨rfl, rfl⟩
    · have dx : decide ((0 : Int) < (x : Int)) = false := by simp; omega
      have hz : Hid (out = Z) := by
        unfold Hid; have h3 := H2.out
        have : x = 0 := by omega
        rw [this] at h3; simpa using h3
      go_wp2_with fail
      go_ret
      rw [hv.out, ← hz.out]
      exact ⟨rfl, rfl⟩
end Go.Proofs.YtpamlgdopmjooaaGreat
