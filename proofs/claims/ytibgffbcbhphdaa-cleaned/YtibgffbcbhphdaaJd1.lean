import Derived.Test.YtibgffbcbhphdaaRd7
import Derived.Test.YtibgffbcbhphdaaEv
namespace Go.Proofs.Ytibgffbcbhphdaa
open Go.RowKit
set_option linter.unusedVariables false
set_option linter.unusedSimpArgs false

theorem byteAt_in {r : ByteArray} {k : Nat} (h : k < r.size) : Sv.byteAt r k = (r[k].toNat : Int) := by
  unfold Sv.byteAt; rw [dif_pos h]

theorem ret_int {k : IntKind} {a b : Int} (h : a = b) : Ending.returned (.int k a) = .returned (.int k b) := by rw [h]
theorem two_bytes (a b : UInt8) : wrap64 (wrap64 (a.toNat : Int) + wrap64 (256 * wrap64 (b.toNat : Int))) = (a.toNat : Int) + 256 * (b.toNat : Int) := by
  have h1 := a.toNat_lt
  have h2 := b.toNat_lt
  rw [wrap_byte, wrap_byte, IntWalk.wrap64_in (256 * (b.toNat : Int)) ⟨by omega, by omega⟩, IntWalk.wrap64_in _ ⟨by omega, by omega⟩]

set_option maxHeartbeats 1000000 in
theorem at_any (w : World) (r : ByteArray) (k : Int) (hr : r.size = 20) (h0 : 0 ≤ k) (h1 : k ≤ 18) :
    Calls Try.prog 81 #[.string r, .int .i64 k] w fun e w' => e = .returned (.int .i64 (Sv.wordAt r k)) ∧ ∃ n, w' = w.drewN n := by
  obtain ⟨n, rfl⟩ := Int.eq_ofNat_of_zero_le h0
  have hn : n < r.size := by omega
  have hn1 : n + 1 < r.size := by omega
  have hd : decide ((r.size : Int) - 1 ≤ (n : Int)) = false := by simp; omega
  have hd0 : decide ((n : Int) < 0) = false := by simp
  have hv : Hid (Sv.wordAt r (n : Int) = (r[n].toNat : Int) + 256 * (r[n+1].toNat : Int)) := by
    unfold Hid Sv.wordAt; rw [Int.toNat_natCast, byteAt_in hn, byteAt_in hn1]
  have hra : r.size ≤ 20 := by omega
  have hrb : 20 ≤ r.size := by omega
  clear hr
  have e1 : IntKind.i64.wrap ((n : Int) + 1) = ((n + 1 : Nat) : Int) := by rw [IntWalk.i64_in _ ⟨by omega, by omega⟩]; omega
  have e2 : (n : Int) + 1 < (r.size : Int) := by omega
  have e3 : (0 : Int) ≤ (n : Int) + 1 := by omega
  have e4 : ((n : Int) + 1).toNat = n + 1 := by omega
  go_enter Try.func81, Try.ntmps81
  go_wp2_with fail
  go_quiet (fail)
  go_wp2_with fail
  go_ret
  exact ⟨by rw [hv.out]; exact ret_int (two_bytes _ _), _, rfl⟩

set_option maxHeartbeats 1000000 in
theorem below_any (w : World) (a b c d : Int) :
    Calls Try.prog 97 #[.agg #[.int .i64 a, .int .i64 b], .agg #[.int .i64 c, .int .i64 d]] w fun e w' => e = .returned (.bool (Sv.lss a b c d)) ∧ w.grownBy w' none := by
  by_cases h : a = c
  · have hv : Hid (Sv.lss a b c d = decide (b < d)) := by unfold Hid Sv.lss; rw [if_pos h]
    have hne : (a != c) = false := by simp [h]
    have H := hid h
    clear h
    go_enter Try.func97, Try.ntmps97
    go_wp2_with fail
    go_ret
    rw [hv.out]
    exact ⟨rfl, gb_alloc (gb_alloc (gb_refl _ _) _) _⟩
  · have hv : Hid (Sv.lss a b c d = decide (a < c)) := by unfold Hid Sv.lss; rw [if_neg h]
    have hne : (a != c) = true := by simp [h]
    have H := hid h
    clear h
    go_enter Try.func97, Try.ntmps97
    go_wp2_with fail
    go_ret
    rw [hv.out]
    exact ⟨rfl, gb_alloc (gb_alloc (gb_refl _ _) _) _⟩

theorem wordAt_range {r : ByteArray} {k : Int} (hr : r.size = 20) (h0 : 0 ≤ k) (h1 : k ≤ 18) : 0 ≤ Sv.wordAt r k ∧ Sv.wordAt r k < 65536 := by
  unfold Sv.wordAt
  rw [byteAt_in (by omega), byteAt_in (by omega)]
  have := r[k.toNat].toNat_lt
  have := r[k.toNat + 1].toNat_lt
  omega

theorem i64_land (a b : Int) (h1 : 0 ≤ a) (h2 : a < 4294967296) (h3 : 0 ≤ b) (h4 : b < 4294967296) : bits .and .i64 a b = Sv.land a b := by
  obtain ⟨A, rfl⟩ := Int.eq_ofNat_of_zero_le h1
  obtain ⟨B, rfl⟩ := Int.eq_ofNat_of_zero_le h3
  unfold Sv.land
  rw [Int.toNat_natCast, Int.toNat_natCast]
  have hx : A &&& B < 2 ^ 32 := Nat.and_lt_two_pow _ (by omega)
  show IntKind.i64.wrap ((BitVec.ofInt 64 (A : Int) &&& BitVec.ofInt 64 (B : Int)).toNat : Int) = _
  rw [BitVec.toNat_and, ofInt_u64 A (by omega), ofInt_u64 B (by omega), IntWalk.i64_in _ ⟨by omega, by omega⟩]

set_option maxHeartbeats 1000000 in
theorem compare_any (w : World) (r : ByteArray) (x : Sv.Tm) (hr : r.size = 20) (hx : Sv.TmOk x) :
    Calls Try.prog 79 #[.agg (tmCells x), .string r] w fun e w' => e = .returned (.bool (Sv.cmp r x)) ∧ w.grownBy w' none := by
  obtain ⟨k, wd, mh, ml, rel, wh, wl⟩ := x
  obtain ⟨h1, h2, h3, h4, h5, h6⟩ := hx
  simp only at h1 h2 h3 h4 h5 h6
  have r1 := wordAt_range hr h1 (by omega : wd ≤ 18)
  have r2 := wordAt_range hr (by omega : 0 ≤ wd + 2) (by omega : wd + 2 ≤ 18)
  have b1 := i64_land (Sv.wordAt r wd) ml r1.1 (by omega) h5 (by omega)
  have b2 := i64_land (Sv.wordAt r (wd + 2)) mh r2.1 (by omega) h3 (by omega)
  clear r1 r2
  have A1 := fun w => at_any w r wd hr h1 (by omega)
  have A2 := fun w => at_any w r (wd + 2) hr (by omega) (by omega)
  simp only [tmCells]
  have hv : Hid (Sv.cmp r ⟨k, wd, mh, ml, rel, wh, wl⟩ = if rel = 1 then Sv.lss (Sv.land (Sv.wordAt r (wd + 2)) mh) (Sv.land (Sv.wordAt r wd) ml) wh wl
    else if rel = 2 then Sv.lss wh wl (Sv.land (Sv.wordAt r (wd + 2)) mh) (Sv.land (Sv.wordAt r wd) ml)
    else (decide (Sv.land (Sv.wordAt r (wd + 2)) mh = wh) && decide (Sv.land (Sv.wordAt r wd) ml = wl))) := rfl
  generalize Sv.wordAt r wd = lo at *
  generalize Sv.wordAt r (wd + 2) = hi at *
  generalize Sv.land lo ml = vl at *
  generalize Sv.land hi mh = vh at *
  clear hr
  by_cases q1 : rel = 1
  · subst q1
    replace hv : Hid (Sv.cmp r ⟨k, wd, mh, ml, 1, wh, wl⟩ = Sv.lss vh vl wh wl) := by unfold Hid; rw [hv.out, if_pos rfl]
    go_enter Try.func79, Try.ntmps79
    go_wp2_with fail
    refine (A1 _).mono ?_
    rintro e w1 ⟨rfl, n1, rfl⟩
    go_wp2_with fail
    refine (A2 _).mono ?_
    rintro e w2 ⟨rfl, n2, rfl⟩
    clear A1 A2
    go_wp2_with fail
    refine (below_any _ _ _ _ _).mono ?_
    rintro e w3 ⟨rfl, hg⟩
    go_wp2_with fail
    go_ret
    rw [hv.out]
    exact ⟨rfl, gb_trans (gb_alloc (gb_drewN (gb_alloc (gb_refl _ _) _) _) _) hg⟩
  · have e1 : (rel == 1) = false := by simp [q1]
    by_cases q2 : rel = 2
    · subst q2
      clear q1 e1
      replace hv : Hid (Sv.cmp r ⟨k, wd, mh, ml, 2, wh, wl⟩ = Sv.lss wh wl vh vl) := by unfold Hid; rw [hv.out, if_neg (by decide), if_pos rfl]
      go_enter Try.func79, Try.ntmps79
      go_wp2_with fail
      refine (A1 _).mono ?_
      rintro e w1 ⟨rfl, n1, rfl⟩
      go_wp2_with fail
      refine (A2 _).mono ?_
      rintro e w2 ⟨rfl, n2, rfl⟩
      clear A1 A2
      go_wp2_with fail
      refine (below_any _ _ _ _ _).mono ?_
      rintro e w3 ⟨rfl, hg⟩
      go_wp2_with fail
      go_ret
      rw [hv.out]
      exact ⟨rfl, gb_trans (gb_alloc (gb_drewN (gb_alloc (gb_refl _ _) _) _) _) hg⟩
    · have e2 : (rel == 2) = false := by simp [q2]
      have hv2 : Hid (Sv.cmp r ⟨k, wd, mh, ml, rel, wh, wl⟩ = (decide (vh = wh) && decide (vl = wl))) := by
        have := hv.out; rw [if_neg q1, if_neg q2] at this; exact this
      clear hv q1 q2
      by_cases q3 : vh = wh
      · have e3 : (vh == wh) = true := by simp [q3]
        have hv3 : Hid (Sv.cmp r ⟨k, wd, mh, ml, rel, wh, wl⟩ = (vl == wl)) := by
          have := hv2.out; rw [q3] at this; unfold Hid; rw [this]; simp only [decide_true, Bool.true_and]; rfl
        clear hv2 q3
        go_enter Try.func79, Try.ntmps79
        go_wp2_with fail
        refine (A1 _).mono ?_
        rintro e w1 ⟨rfl, n1, rfl⟩
        go_wp2_with fail
        refine (A2 _).mono ?_
        rintro e w2 ⟨rfl, n2, rfl⟩
        clear A1 A2
        go_wp2_with fail
        go_ret
        rw [hv3.out]
        exact ⟨rfl, gb_alloc (gb_drewN (gb_alloc (gb_refl _ _) _) _) _⟩
      · have e3 : (vh == wh) = false := by simp [q3]
        have hv3 : Hid (Sv.cmp r ⟨k, wd, mh, ml, rel, wh, wl⟩ = false) := by
          have := hv2.out; unfold Hid; rw [this]; simp [q3]
        clear hv2 q3
        go_enter Try.func79, Try.ntmps79
        go_wp2_with fail
        refine (A1 _).mono ?_
        rintro e w1 ⟨rfl, n1, rfl⟩
        go_wp2_with fail
        refine (A2 _).mono ?_
        rintro e w2 ⟨rfl, n2, rfl⟩
        clear A1 A2
        go_wp2_with fail
        go_ret
        rw [hv3.out]
        exact ⟨rfl, gb_alloc (gb_drewN (gb_alloc (gb_refl _ _) _) _) _⟩
end Go.Proofs.Ytibgffbcbhphdaa
