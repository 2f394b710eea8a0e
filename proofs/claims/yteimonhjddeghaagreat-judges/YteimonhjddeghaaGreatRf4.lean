import Derived.Test.YteimonhjddeghaaGreatRf3
namespace Go.Proofs.YteimonhjddeghaaGreat
open Go.RowKit
set_option linter.unusedVariables false
set_option linter.unusedSimpArgs false

/-- the argument with this digit -/
def argV (r : ByteArray) (d : Int) : Int := Sv.wordAt r (4 + 4 * (d - 48)) + 65536 * Sv.wordAt r (4 + 4 * (d - 48) + 2)
theorem argV_bd {r : ByteArray} {d : Int} (hr : r.size = 20) (h0 : 48 ≤ d) (h1 : d ≤ 51) : 0 ≤ argV r d ∧ argV r d < 4294967296 := by
  have a := wordAt_range hr (by omega : 0 ≤ 4 + 4 * (d - 48)) (by omega)
  have b := wordAt_range hr (by omega : 0 ≤ 4 + 4 * (d - 48) + 2) (by omega)
  unfold argV; omega
theorem bytes4 (w : World) (r : ByteArray) (d : Int) (hr : r.size = 20) (h0 : 48 ≤ d) (h1 : d ≤ 51) :
    Calls Tryz.prog 51 #[.string r, .int .i64 (4 + 4 * (d - 48)), .int .i64 4] w fun e w' => e = .returned (.int .i64 (argV r d)) ∧ w' = w := by
  have := bytes_any w r (4 + 4 * (d - 48)) 4 (by omega) (by omega) (by omega) (by omega) (by omega)
  have e : bN r (4 + 4 * (d - 48)).toNat (4 : Int).toNat (4 : Int).toNat = argV r d := by
    have h := bN_4 r (4 + 4 * (d - 48)).toNat
    have e2 : (((4 + 4 * (d - 48)).toNat : Nat) : Int) = 4 + 4 * (d - 48) := by omega
    rw [e2] at h
    exact h
  rw [e] at this
  exact this
theorem bytes2 (w : World) (r : ByteArray) (k : Int) (hr : r.size = 20) (h0 : 0 ≤ k) (h1 : k ≤ 2) :
    Calls Tryz.prog 51 #[.string r, .int .i64 k, .int .i64 2] w fun e w' => e = .returned (.int .i64 (Sv.wordAt r k)) ∧ w' = w := by
  have := bytes_any w r k 2 (by omega) (by omega) (by omega) (by omega) (by omega)
  have e : bN r k.toNat (2 : Int).toNat (2 : Int).toNat = Sv.wordAt r k := by
    have h := bN_2 r k.toNat
    have e2 : ((k.toNat : Nat) : Int) = k := by omega
    rw [e2] at h
    exact h
  rw [e] at this
  exact this

set_option maxRecDepth 100000 in
set_option maxHeartbeats 1000000 in
theorem refArg_rel (w : World) (t r : ByteArray) (p : Nat) (ht : t.size ≤ 600) (hr : r.size = 20) (hp : p + 11 ≤ t.size) (d0 : 48 ≤ Sv.byteAt t (p + 1)) (d1 : Sv.byteAt t (p + 1) ≤ 51) (hc : Sv.byteAt t (p + 2) ≠ 38) :
    Calls Tryz.prog 60 #[.string t, .int .i64 p, .string r] w fun e w' => e = .returned (.tuple #[.bool (Sv.relB (Sv.byteAt t (p + 2)) (argV r (Sv.byteAt t (p + 1))) (Sv.numN t (p + 3) 8)), .int .i64 ((p : Int) + 11)]) ∧ w' = w := by
  have h1 : p + 1 < t.size := by omega
  have h2 : p + 2 < t.size := by omega
  have B1 : ((t[p + 1]'h1).toNat : Int) = Sv.byteAt t (p + 1) := (byteAt_in h1).symm
  have B2 : ((t[p + 2]'h2).toNat : Int) = Sv.byteAt t (p + 2) := (byteAt_in h2).symm
  have hb := fun w => bytes4 w r _ hr d0 d1
  have hne : (Sv.byteAt t (p + 2) != 38) = true := by simp [hc]
  have hR := fun w => related_any w (Sv.byteAt t (p + 2)) (argV r (Sv.byteAt t (p + 1))) (Sv.numN t (p + 3) 8)
  have hN : ∀ w, Calls Tryz.prog 43 #[.string t, .int .i64 ((p : Int) + 3), .int .i64 8] w fun e w' => e = .returned (.int .i64 (Sv.numN t (p + 3) 8)) ∧ w' = w := by
    intro w
    have := number_any w t ((p : Int) + 3) 8 (by omega) (by omega) (by omega) (by omega) ht
    have e : ((p : Int) + 3).toNat = p + 3 := by omega
    rw [e] at this
    exact this
  have e11 : (p : Int) + 1 < (t.size : Int) := by omega
  have e12 : (0 : Int) ≤ (p : Int) + 1 := by omega
  have e13 : ((p : Int) + 1).toNat = p + 1 := by omega
  have e21 : (p : Int) + 2 < (t.size : Int) := by omega
  have e22 : (0 : Int) ≤ (p : Int) + 2 := by omega
  have e23 : ((p : Int) + 2).toNat = p + 2 := by omega
  generalize Sv.numN t (p + 3) 8 = v at *
  generalize Sv.byteAt t (p + 1) = D at *
  generalize Sv.byteAt t (p + 2) = C at *
  clear hc
  go_enter Tryz.func60, Tryz.ntmps60
  go_wp2_with fail
  refine (hb _).mono ?_
  rintro e w1 ⟨rfl, hw⟩
  subst hw
  clear hb
  go_wp2_with fail
  refine (hN _).mono ?_
  rintro e w1 ⟨rfl, hw⟩
  subst hw
  clear hN
  go_wp2_with fail
  refine (hR _).mono ?_
  rintro e w1 ⟨rfl, hw⟩
  subst hw
  clear hR
  go_wp2_with fail
  go_ret2
  exact ⟨rfl, rfl⟩

theorem number_at (w : World) (t : ByteArray) (p k n : Nat) (hn : n ≤ 8) (h : p + k + n ≤ t.size) (hs : t.size ≤ 600) :
    Calls Tryz.prog 43 #[.string t, .int .i64 ((p : Int) + (k : Int)), .int .i64 (n : Int)] w fun e w' => e = .returned (.int .i64 (Sv.numN t (p + k) n)) ∧ w' = w := by
  have := number_any w t ((p : Int) + k) n (by omega) (by omega) (by omega) (by omega) hs
  have e : ((p : Int) + (k : Int)).toNat = p + k := by omega
  rw [e, Int.toNat_natCast] at this
  exact this

set_option maxRecDepth 100000 in
set_option maxHeartbeats 1000000 in
theorem refArg_mask (w : World) (t r : ByteArray) (p : Nat) (ht : t.size ≤ 600) (hr : r.size = 20) (hp : p + 20 ≤ t.size) (d0 : 48 ≤ Sv.byteAt t (p + 1)) (d1 : Sv.byteAt t (p + 1) ≤ 51) (hc : Sv.byteAt t (p + 2) = 38)
    (m0 : 0 ≤ Sv.numN t (p + 3) 8) (m1 : Sv.numN t (p + 3) 8 < 4294967296) :
    Calls Tryz.prog 60 #[.string t, .int .i64 p, .string r] w fun e w' => e = .returned (.tuple #[.bool (Sv.land (argV r (Sv.byteAt t (p + 1))) (Sv.numN t (p + 3) 8) == Sv.numN t (p + 12) 8), .int .i64 ((p : Int) + 20)]) ∧ w' = w := by
  have h1 : p + 1 < t.size := by omega
  have h2 : p + 2 < t.size := by omega
  have B1 : ((t[p + 1]'h1).toNat : Int) = Sv.byteAt t (p + 1) := (byteAt_in h1).symm
  have B2 : ((t[p + 2]'h2).toNat : Int) = 38 := by rw [← hc]; exact (byteAt_in h2).symm
  have hb := fun w => bytes4 w r _ hr d0 d1
  have ha := argV_bd hr d0 d1
  have hS := fun w => shared_any w _ _ ha.1 ha.2 m0 m1
  have hN1 : ∀ w, Calls Tryz.prog 43 #[.string t, .int .i64 ((p : Int) + 3), .int .i64 8] w fun e w' => e = .returned (.int .i64 (Sv.numN t (p + 3) 8)) ∧ w' = w := fun w => number_at w t p 3 8 (by omega) (by omega) ht
  have hN2 : ∀ w, Calls Tryz.prog 43 #[.string t, .int .i64 ((p : Int) + 12), .int .i64 8] w fun e w' => e = .returned (.int .i64 (Sv.numN t (p + 12) 8)) ∧ w' = w := fun w => number_at w t p 12 8 (by omega) (by omega) ht
  have e11 : (p : Int) + 1 < (t.size : Int) := by omega
  have e12 : (0 : Int) ≤ (p : Int) + 1 := by omega
  have e13 : ((p : Int) + 1).toNat = p + 1 := by omega
  have e21 : (p : Int) + 2 < (t.size : Int) := by omega
  have e22 : (0 : Int) ≤ (p : Int) + 2 := by omega
  have e23 : ((p : Int) + 2).toNat = p + 2 := by omega
  clear hc ha
  generalize Sv.numN t (p + 3) 8 = v at *
  generalize Sv.numN t (p + 12) 8 = x at *
  generalize Sv.byteAt t (p + 1) = D at *
  generalize Sv.land (argV r D) v = z at *
  generalize argV r D = a at *
  go_enter Tryz.func60, Tryz.ntmps60
  go_wp2_with fail
  refine (hb _).mono ?_
  rintro e w1 ⟨rfl, hw⟩
  subst hw
  clear hb
  go_wp2_with fail
  refine (hN1 _).mono ?_
  rintro e w1 ⟨rfl, hw⟩
  subst hw
  clear hN1
  go_wp2_with fail
  refine (hN2 _).mono ?_
  rintro e w1 ⟨rfl, hw⟩
  subst hw
  clear hN2
  go_wp2_with fail
  refine (hS _).mono ?_
  rintro e w1 ⟨rfl, hw⟩
  subst hw
  clear hS
  go_wp2_with fail
  go_ret2
  exact ⟨rfl, rfl⟩
end Go.Proofs.YteimonhjddeghaaGreat
