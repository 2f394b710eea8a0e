import Derived.Test.YtldongbimhngfaaGJd
namespace Go.Proofs.Ytldongbimhngfaa
open Go.RowKit
set_option linter.unusedVariables false
set_option linter.unusedSimpArgs false

/-- which of n things the raw number c speaks of -/
def pk (c n : Int) : Int := (if c < 0 then -(c + 1) else c) % n
theorem pk_range (c n : Int) (hn : 0 < n) : 0 ≤ pk c n ∧ pk c n < n := by
  unfold pk; exact ⟨Int.emod_nonneg _ (by omega), Int.emod_lt_of_pos _ hn⟩

set_option maxHeartbeats 1000000 in
theorem pick_any (w : World) (c n : Int) (h0 : -9223372036854775808 ≤ c) (h1 : c ≤ 9223372036854775807) (hn : 0 < n) (hn1 : n ≤ 9223372036854775807) :
    Calls Try.prog 17 #[.int .i64 c, .int .i64 n] w fun e w' => e = .returned (.int .i64 (pk c n)) ∧ w' = w := by
  have hne : (n == 0) = false := by simp; omega
  by_cases hc : c < 0
  · have hv : Hid (pk c n = (-(c + 1)) % n) := by unfold Hid pk; rw [if_pos hc]
    go_enter Try.func17, Try.ntmps17
    go_wp2
    go_ret
    exact ⟨by rw [hv.out]; exact ret_int (by rw [← Int.neg_tmod, Int.tmod_eq_emod_of_nonneg (by omega)]), rfl⟩
  · have hv : Hid (pk c n = c % n) := by unfold Hid pk; rw [if_neg hc]
    go_enter Try.func17, Try.ntmps17
    go_wp2
    go_ret
    exact ⟨by rw [hv.out]; rfl, rfl⟩

theorem flag_any (w : World) (b : Bool) : Calls Try.prog 24 #[.bool b] w fun e w' => e = .returned (.int .i64 (if b = true then 1 else 0)) ∧ w' = w := by
  cases b
  · go_enter Try.func24, Try.ntmps24
    go_wp2
    go_ret
    exact ⟨rfl, rfl⟩
  · go_enter Try.func24, Try.ntmps24
    go_wp2
    go_ret
    exact ⟨rfl, rfl⟩

/-- a digit to the base 16 -/
def hexC (d : Nat) : UInt8 := if d < 10 then (48 + d).toUInt8 else (87 + d).toUInt8
def hexTo (v : Nat) : Nat → List UInt8
  | 0 => []
  | k + 1 => hexC (v / 16 ^ k % 16) :: hexTo v k
/-- four digits -/
def hex4 (v : Nat) : List UInt8 := hexTo v 4

def HexAt (V k X : Nat) (O : ByteArray) : Prop := X = V / 16 ^ k ∧ O = ⟨(hexTo V k).toArray⟩
theorem hexTo_len (v k : Nat) : (hexTo v k).length = k := by
  induction k with
  | zero => rfl
  | succ k ih => simp [hexTo, ih]
theorem hex_size (v k : Nat) : (⟨(hexTo v k).toArray⟩ : ByteArray).size = k := by
  show (hexTo v k).toArray.size = k
  rw [List.size_toArray, hexTo_len]
theorem HexAt.size {V k X : Nat} {O : ByteArray} (h : HexAt V k X O) : O.size = k := by rw [h.2, hex_size]
theorem hex_step {V k X : Nat} {O : ByteArray} (h : HexAt V k X O) : HexAt V (k + 1) (X / 16) ((⟨#[hexC (X % 16)]⟩ : ByteArray) ++ O) := by
  obtain ⟨rfl, rfl⟩ := h
  refine ⟨by rw [Nat.div_div_eq_div_mul, Nat.pow_succ], ?_⟩
  apply ByteArray.ext
  simp [hexTo]
theorem hex_slice (d : Nat) (hd : d < 16) : (ByteArray.mk #[48, 49, 50, 51, 52, 53, 54, 55, 56, 57, 97, 98, 99, 100, 101, 102]).extract d (d + 1) = ⟨#[hexC d]⟩ := by
  have : d = 0 ∨ d = 1 ∨ d = 2 ∨ d = 3 ∨ d = 4 ∨ d = 5 ∨ d = 6 ∨ d = 7 ∨ d = 8 ∨ d = 9 ∨ d = 10 ∨ d = 11 ∨ d = 12 ∨ d = 13 ∨ d = 14 ∨ d = 15 := by omega
  rcases this with rfl | rfl | rfl | rfl | rfl | rfl | rfl | rfl | rfl | rfl | rfl | rfl | rfl | rfl | rfl | rfl <;> decide

set_option maxRecDepth 100000 in
set_option maxHeartbeats 1000000 in
theorem hex_any (w : World) (v : Int) (h0 : 0 ≤ v) (h1 : v < 65536) :
    Calls Try.prog 20 #[.int .i64 v] w fun e w' => e = .returned (.string ⟨(hex4 v.toNat).toArray⟩) ∧ w' = w := by
  obtain ⟨V, rfl⟩ := Int.eq_ofNat_of_zero_le h0
  rw [Int.toNat_natCast]
  go_enter Try.func20, Try.ntmps20
  go_wp2_with fail
  generalize hD : (ByteArray.mk #[48, 49, 50, 51, 52, 53, 54, 55, 56, 57, 97, 98, 99, 100, 101, 102]) = D
  have hd1 : D.size ≤ 16 := by rw [← hD]; decide
  have hd2 : 16 ≤ D.size := by rw [← hD]; decide
  have HD := hid hD
  clear hD
  go_loop [0, 4, 5] (fun x o i => ∃ (k X : Nat) (O : ByteArray), k ≤ 4 ∧ i = .int .i64 k ∧ x = .int .i64 (X : Int) ∧ o = .string O ∧ (X : Int) ≤ 65535 ∧ O.size ≤ 4 ∧ HexAt V k X O) (fun _ _ i => 4 - (intOf i).toNat)
  case atStart => exact ⟨0, V, _, by omega, rfl, by simp, rfl, by omega, by simp [ByteArray.size], by simp [HexAt], rfl⟩
  case round =>
    obtain ⟨k, X, O, hk, rfl, rfl, rfl, hX, hO, HX⟩ := hrel
    by_cases hlt : k < 4
    · have e1 : (0 : Int) ≤ (X : Int) % 16 := by omega
      have e2 : (X : Int) % 16 < 16 := by omega
      have hS : D.extract ((X : Int) % 16).toNat ((X : Int) % 16 + 1).toNat = ⟨#[hexC (X % 16)]⟩ := by
        have e3 : ((X : Int) % 16).toNat = X % 16 := by omega
        have e4 : ((X : Int) % 16 + 1).toNat = X % 16 + 1 := by omega
        rw [e3, e4, ← HD.out]
        exact hex_slice (X % 16) (by omega)
      have hsl := fun wx => run_slice_string (P := Try.prog) wx 9 D .i64 .i64 ((X : Int) % 16) ((X : Int) % 16 + 1) Try.underlying9 e1 (by omega) (by omega)
      rw [hS] at hsl
      have hHx : Hid (HexAt V (k + 1) (X / 16) ((⟨#[hexC (X % 16)]⟩ : ByteArray) ++ O)) := hex_step HX
      have hs1 : (⟨#[hexC (X % 16)]⟩ : ByteArray).size = 1 := rfl
      have hs2 : (⟨#[hexC (X % 16)]⟩ : ByteArray).size ≤ 1 := by omega
      have hs3 : ((⟨#[hexC (X % 16)]⟩ : ByteArray) ++ O).size ≤ 4 := by rw [ByteArray.size_append, hs1, HX.size]; omega
      clear h0 h1 hS hs1
      generalize (⟨#[hexC (X % 16)]⟩ : ByteArray) = S at *
      go_wp2_with fail
      go_round
      case rel => exact ⟨k + 1, X / 16, S ++ O, by omega, by go_num, by simp, rfl, by omega, hs3, hHx.out⟩
      case measure => simp [intOf]; omega
    · have hk4 : k = 4 := by omega
      subst hk4
      have hO2 : Hid (O = ⟨(hex4 V).toArray⟩) := HX.2
      clear h0 h1
      go_wp2_with fail
      go_ret
      rw [hO2.out]
      exact ⟨rfl, rfl⟩
end Go.Proofs.Ytldongbimhngfaa
