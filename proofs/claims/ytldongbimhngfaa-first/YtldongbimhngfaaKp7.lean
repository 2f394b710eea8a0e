import Derived.Test.YtldongbimhngfaaKp6
import Derived.Test.YtldongbimhngfaaPz2
namespace Go.Proofs.Ytldongbimhngfaa
open Go.RowKit
set_option linter.unusedVariables false
set_option linter.unusedSimpArgs false

theorem judge_at (w : World) (t r : ByteArray) (V : Int) (h : Sv.judge t r = (V, 0)) (ht : t.size ≤ 600) (hr : r.size = 20) :
    Calls Try.prog 19 #[.string t, .string r] w fun e w' => e = .returned (.tuple #[.int .i64 V, .int .i64 0]) ∧ w.grownBy w' none := by
  have := judge_any w t r (by unfold maxLen; omega) (by unfold maxLen; omega)
  rw [h] at this; exact this

/-- whether a condition holds, as a number -/
def hN (r : ByteArray) (ts : List Sv.Tm) : Int := if Sv.holds r ts = true then 1 else 0
theorem hN_01 (r : ByteArray) (ts : List Sv.Tm) : hN r ts = 0 ∨ hN r ts = 1 := by unfold hN; split <;> simp
set_option maxRecDepth 100000 in
set_option maxHeartbeats 1000000 in
theorem asked_any (w : World) (c r : ByteArray) (ts : List Sv.Tm) (hc : CondReads c.data.toList ts 1) (hs : c.size ≤ 500) (hr : r.size = 20) :
    Calls Try.prog 18 #[.string c, .string r] w fun e w' => e = .returned (.int .i64 (hN r ts)) ∧ w.grownBy w' none := by
  have hJ : Sv.judge (ByteArray.mk #[63] ++ c ++ ByteArray.mk #[58, 48, 48, 48, 49, 46, 48, 48, 48, 48]) r = (hN r ts, 0) :=
    judge_asked hc (by simp) (by simp only [ByteArray.size_append]; show 1 + c.size + 10 ≤ 600; omega) hr
  have hsz : (ByteArray.mk #[63] ++ c ++ ByteArray.mk #[58, 48, 48, 48, 49, 46, 48, 48, 48, 48]).size ≤ 600 := by
    simp only [ByteArray.size_append]; show 1 + c.size + 10 ≤ 600; omega
  have hA := judge_at (w := w) _ r _ hJ hsz hr
  have h01 := hN_01 r ts
  clear hJ hsz hc hr
  generalize hN r ts = h at *
  rcases h01 with rfl | rfl
  · go_enter Try.func18, Try.ntmps18
    go_wp2_with fail
    refine hA.mono ?_
    rintro e w1 ⟨rfl, hg⟩
    clear hA
    go_wp2_with fail
    go_ret
    exact ⟨rfl, hg⟩
  · go_enter Try.func18, Try.ntmps18
    go_wp2_with fail
    refine hA.mono ?_
    rintro e w1 ⟨rfl, hg⟩
    clear hA
    go_wp2_with fail
    go_ret
    exact ⟨rfl, hg⟩

theorem cond_T : CondReads [84] [Sv.tm0 0] 1 := by
  have := CondReads.cons (m := 0) (k := 0) term_T (by simp) rfl CondReads.nil
  simpa using this
theorem cond_NT : CondReads [33, 84] [Sv.tm0 1, Sv.tm0 0] 1 := by
  have := CondReads.cons (m := 0) (k := 1) term_N (by simp) rfl cond_T
  simpa using this
theorem rec_size (ll : Nat) (z : Nat → Int) : (⟨(recB ll z 10).toArray⟩ : ByteArray).size = 20 := by
  show (recB ll z 10).toArray.size = 20
  rw [List.size_toArray, recB_len]

set_option maxRecDepth 100000 in
set_option maxHeartbeats 4000000 in
theorem first_walk (w : World) (la lb lr : Option Addr) (na ca nb cb nr cr : Nat) (za zb zr : Nat → Int) (vd : Int) (hA : RawRow w w.heap.size la na za) (hB : RawRow w w.heap.size lb nb zb) (hR : RawRow w w.heap.size lr nr zr)
    (ma : na ≤ maxLen) (mb : nb ≤ maxLen) (mr : nr ≤ maxLen) (v0 : -9223372036854775808 ≤ vd) (v1 : vd ≤ 9223372036854775807) :
    Calls Try.prog 3 #[.slice la na ca, .int .i64 vd, .slice lb nb cb, .slice lr nr cr] w fun e w' => e = .returned (.bool true) ∧ Below w.heap.size w w' := by
  have hC := condM_any w la na ca za hA ma
  have HB := hid hB
  have HR := hid hR
  have hpk := pk_range vd 65536 (by omega)
  clear hA hB hR
  go_enter Try.func3, Try.ntmps3
  go_wp2_with fail
  refine hC.mono ?_
  clear hC
  rintro e w1 ⟨T, n1, rfl, hD1, hT, hg1⟩
  obtain ⟨ts, c, rest, n', v, _, hcr, hrest, hCR, hEv⟩ := der_cond n1 n1 1 [] T.data.toList (Nat.le_refl _) hD1
  have hrn : rest = [] := by
    cases n' with
    | zero => exact hrest.2
    | succ n' => obtain ⟨_, _, _, _, _, hh, _⟩ := hrest; simp at hh
  subst hrn
  rw [List.append_nil] at hcr
  subst hcr
  have HC := hid hCR
  clear hD1 hrest hCR hEv
  have hS := shortM_any w1 lb nb cb zb (by
    intro i hi
    obtain ⟨b, off, h1, h2, h3, h4⟩ := (HB.out.keep hg1 (Nat.le_refl _) (fun _ h => by cases h)) i hi
    exact ⟨b, off, h1, by have := hg1.size; omega, h3, h4⟩) mb
  go_wp2_with fail
  refine hS.mono ?_
  clear hS
  rintro e w2 ⟨P, n2, rfl, hD2, hP, hg2⟩
  obtain ⟨R, d, hPol⟩ := der_pol n2 n2 P.data.toList (Nat.le_refl _) hD2
  have HP := hid hPol
  clear hD2 hPol
  have hg12 := gb_trans hg1 hg2
  have hRc := record_any w2 lr nr cr zr (by
    intro i hi
    obtain ⟨b, off, h1, h2, h3, h4⟩ := (HR.out.keep hg12 (Nat.le_refl _) (fun _ h => by cases h)) i hi
    exact ⟨b, off, h1, by have := hg12.size; omega, h3, h4⟩) mr
  clear hg1 hg2
  go_wp2_with fail
  refine hRc.mono ?_
  clear hRc
  rintro e w3 ⟨rfl, hg3⟩
  have hr20 := rec_size nr zr
  generalize (⟨(recB nr zr 10).toArray⟩ : ByteArray) = r at *
  have Hr := hid hr20
  have Hg := hid (gb_trans hg12 hg3)
  clear hr20 hg12 hg3 HB HR
  go_wp2_with fail
  refine (pick_any _ vd 65536 v0 v1 (by omega) (by omega)).mono ?_
  rintro e w4 ⟨rfl, hw⟩
  subst hw
  have p0 := hpk.1
  have p1 := hpk.2
  clear hpk
  generalize pk vd 65536 = V at *
  obtain ⟨N, rfl⟩ := Int.eq_ofNat_of_zero_le p0
  go_wp2_with fail
  refine (asked_any _ T r ts HC.out (by omega) Hr.out).mono ?_
  rintro e w5 ⟨rfl, hg5⟩
  replace Hg := hid (gb_trans Hg.out hg5)
  clear hg5
  have hJ1 : Hid (Sv.judge P r = (Sv.verdict r d R, 0)) := judge_of rfl HP.out (by omega) Hr.out
  go_wp2_with fail
  refine (judge_at _ P r _ hJ1.out (by omega) Hr.out).mono ?_
  rintro e w6 ⟨rfl, hg6⟩
  replace Hg := hid (gb_trans Hg.out hg6)
  clear hg6
  have HX1 := hid (fun w => hex_any w _ p0 p1)
  have hxs : (ByteArray.mk (hex4 (N : Int).toNat).toArray).size ≤ 4 := by rw [Int.toNat_natCast]; exact Nat.le_of_eq (hex_size N 4)
  have hxl : Hid ((ByteArray.mk (hex4 (N : Int).toNat).toArray).data.toList = hex4 N) := by unfold Hid; rw [Int.toNat_natCast]
  generalize (ByteArray.mk (hex4 (N : Int).toNat).toArray) = X at *
  go_wp2_with fail
  refine (HX1.out _).mono ?_
  rintro e w7 ⟨rfl, hw⟩
  subst hw
  have hJ2 : Hid (Sv.judge (ByteArray.mk #[63] ++ T ++ ByteArray.mk #[58] ++ X ++ P) r = (if Sv.holds r ts = true then (N : Int) else Sv.verdict r d R, 0)) :=
    judge_first HC.out (by omega) HP.out (by simp [hxl.out]) (by simp only [ByteArray.size_append]; show 1 + T.size + 1 + X.size + P.size ≤ 600; omega) Hr.out
  have hsz2 : (ByteArray.mk #[63] ++ T ++ ByteArray.mk #[58] ++ X ++ P).size ≤ 600 := by simp only [ByteArray.size_append]; show 1 + T.size + 1 + X.size + P.size ≤ 600; omega
  have hJ3 : Hid (Sv.judge (ByteArray.mk #[63, 84, 58] ++ X ++ P) r = ((N : Int), 0)) := by
    have := judge_first (t := ByteArray.mk #[63, 84, 58] ++ X ++ P) (r := r) cond_T (by omega : N < 65536) HP.out (by simp [hxl.out]) (by simp only [ByteArray.size_append]; show 3 + X.size + P.size ≤ 600; omega) Hr.out
    unfold Hid; rw [this]; rfl
  have hsz3 : (ByteArray.mk #[63, 84, 58] ++ X ++ P).size ≤ 600 := by simp only [ByteArray.size_append]; show 3 + X.size + P.size ≤ 600; omega
  have hJ4 : Hid (Sv.judge (ByteArray.mk #[63, 33, 84, 58] ++ X ++ P) r = (Sv.verdict r d R, 0)) := by
    have := judge_first (t := ByteArray.mk #[63, 33, 84, 58] ++ X ++ P) (r := r) cond_NT (by omega : N < 65536) HP.out (by simp [hxl.out]) (by simp only [ByteArray.size_append]; show 4 + X.size + P.size ≤ 600; omega) Hr.out
    unfold Hid; rw [this]; rfl
  have hsz4 : (ByteArray.mk #[63, 33, 84, 58] ++ X ++ P).size ≤ 600 := by simp only [ByteArray.size_append]; show 4 + X.size + P.size ≤ 600; omega
  have hfin : Hid ((hN r ts = 1 ∧ (if Sv.holds r ts = true then (N : Int) else Sv.verdict r d R) = N) ∨ (hN r ts = 0 ∧ (if Sv.holds r ts = true then (N : Int) else Sv.verdict r d R) = Sv.verdict r d R)) := by
    unfold Hid hN
    cases Sv.holds r ts
    · right; exact ⟨rfl, rfl⟩
    · left; exact ⟨rfl, rfl⟩
  generalize (if Sv.holds r ts = true then (N : Int) else Sv.verdict r d R) = all at *
  generalize hN r ts = h at *
  generalize Sv.verdict r d R = own at *
  go_wp2_with fail
  refine (judge_at _ _ r _ hJ2.out hsz2 Hr.out).mono ?_
  rintro e w8 ⟨rfl, hg8⟩
  replace Hg := hid (gb_trans Hg.out hg8)
  clear hg8 hJ2 hsz2
  go_wp2_with fail
  refine (HX1.out _).mono ?_
  rintro e w9 ⟨rfl, hw⟩
  subst hw
  go_wp2_with fail
  refine (judge_at _ _ r _ hJ3.out hsz3 Hr.out).mono ?_
  rintro e w10 ⟨rfl, hg10⟩
  replace Hg := hid (gb_trans Hg.out hg10)
  clear hg10 hJ3 hsz3
  go_wp2_with fail
  refine (HX1.out _).mono ?_
  rintro e w11 ⟨rfl, hw⟩
  subst hw
  go_wp2_with fail
  refine (judge_at _ _ r _ hJ4.out hsz4 Hr.out).mono ?_
  rintro e w12 ⟨rfl, hg12⟩
  replace Hg := hid (gb_trans Hg.out hg12)
  clear hg12 hJ4 hsz4 HX1
  have Hx := hfin
  clear hfin
  rcases Hx.out with ⟨rfl, rfl⟩ | ⟨rfl, rfl⟩
  · go_wp2_with fail
    go_ret
    exact ⟨by simp, gb_below Hg.out⟩
  · go_wp2_with fail
    go_ret
    exact ⟨by simp, gb_below Hg.out⟩
end Go.Proofs.Ytldongbimhngfaa
